/-
  The walk of the law RunsOne.
-/
import Derived.Test.YtoigljefajbofaaRnLaw
namespace Go.Proofs.Ytoigljefajbofaa
open Go.Shelf Go.RowKit Go.Lib Go.Sort

set_option maxRecDepth 100000 in
set_option maxHeartbeats 4000000 in
theorem one.long_a (va : Value) (a : List Pr) (vb : Value) (b : List Pr) (w : World) (ha : Row encP 2 w va a) (hb : Row encP 2 w vb b) (la : 40 < a.length) : Calls Try.prog 6 #[va, vb] w fun e w' => e = .returned (.bool true) ∧ Below w.heap.size w w' := by
  obtain ⟨aoa, capa, rfl, _⟩ := id ha
  obtain ⟨aob, capb, rfl, _⟩ := id hb
  have ia : (40 : Int) < (a.length : Int) := by omega
  clear ha hb
  go_enter Try.func6, Try.ntmps6
  go_wp2_with fail
  refine (works_any _).mono ?_
  rintro e w1 ⟨rfl, b1⟩
  go_wp2
  go_ret
  exact ⟨rfl, b1⟩

set_option maxRecDepth 100000 in
set_option maxHeartbeats 4000000 in
theorem one.long_b (va : Value) (a : List Pr) (vb : Value) (b : List Pr) (w : World) (ha : Row encP 2 w va a) (hb : Row encP 2 w vb b) (la : a.length ≤ 40) (lb : 40 < b.length) : Calls Try.prog 6 #[va, vb] w fun e w' => e = .returned (.bool true) ∧ Below w.heap.size w w' := by
  obtain ⟨aoa, capa, rfl, _⟩ := id ha
  obtain ⟨aob, capb, rfl, _⟩ := id hb
  have ia : ¬ (40 : Int) < (a.length : Int) := by omega
  have ib : (40 : Int) < (b.length : Int) := by omega
  clear ha hb
  go_enter Try.func6, Try.ntmps6
  go_wp2_with fail
  refine (works_any _).mono ?_
  rintro e w1 ⟨rfl, b1⟩
  go_wp2
  go_ret
  exact ⟨rfl, b1⟩

set_option maxRecDepth 100000 in
set_option maxHeartbeats 4000000 in
theorem one.short (va : Value) (a : List Pr) (vb : Value) (b : List Pr) (w : World) (ha : Row encP 2 w va a) (hb : Row encP 2 w vb b) (la : a.length ≤ 40) (lb : b.length ≤ 40) : Calls Try.prog 6 #[va, vb] w fun e w' => e = .returned (.bool true) ∧ Below w.heap.size w w' := by
  have Ra0 : Hid (Row encP 2 w va a) := ha
  obtain ⟨aoa, capa, rfl, _⟩ := id ha
  have Rb0 : Hid (Row encP 2 w vb b) := hb
  obtain ⟨aob, capb, rfl, _⟩ := id hb
  clear ha hb
  have B0 : Hid (Below w.heap.size w w) := Below.refl _ _
  have ia : ¬ (40 : Int) < (a.length : Int) := by omega
  have ib : ¬ (40 : Int) < (b.length : Int) := by omega
  go_enter Try.func6, Try.ntmps6
  have C1 : Hid (Calls Try.prog 9 #[] w fun e w' => e = .returned (.bool true) ∧ Below w.heap.size w w') := works_any w
  go_wp2_with fail
  refine Calls.mono C1.out ?_
  rintro e w1 ⟨rfl, b1⟩
  clear C1
  have Ra1 : Hid (Row encP 2 w1 _ a) := Ra0.out.below b1
  have Rb1 : Hid (Row encP 2 w1 _ b) := Rb0.out.below b1
  have B1 : Hid (Below w.heap.size w w1) := B0.out.trans (b1.mono B0.out.size)
  clear Ra0 Rb0 B0
  clear b1
  go_wp2_with (at_builtin; refine app_rowP rfl _ _ rfl w1.heap.size _ [] rfl (OwnP.empty _ _) _ a rfl (Ra1.out.below (Below.refl w1.heap.size w1)) (by simp only [List.length_nil]; omega) ((Below.refl w1.heap.size w1).size) a (List.nil_append a) ?_)
  intro ax2 nx2 cx2 w2 HO2 HB2
  have OX2 : Aside (OwnP w1.heap.size w2 (.slice ax2 nx2 cx2) a) := HO2
  have K2 : Hid (Below w1.heap.size w1 w2) := HB2 _ (Below.refl w1.heap.size w1)
  clear HO2 HB2
  have Ra2 : Hid (Row encP 2 w2 _ a) := Ra1.out.below K2.out
  have Rb2 : Hid (Row encP 2 w2 _ b) := Rb1.out.below K2.out
  have B2 : Hid (Below w.heap.size w w2) := B1.out.trans (K2.out.mono B1.out.size)
  have Rx2 : Hid (Row encP 2 w2 _ a) := OX2.out.own.row
  obtain ⟨_, _, ezx, _⟩ := OX2.out.own
  cases ezx
  clear Ra1 Rb1 B1 OX2 K2
  have C3 : Hid (Calls Try.prog 13 #[.slice aoa a.length capa, .slice aob b.length capb] w2 (Gives w2 (unL a b))) := by
    show Calls _ _ _ _ _
    have := union_g _ _ a b w2 Ra2.out Rb2.out (by omega)
    exact this
  go_wp2_with fail
  refine Calls.mono C3.out ?_
  rintro e w3 ⟨aou, nu, cu, rfl, ru, b3⟩
  obtain ⟨_, _, ku, _⟩ := id ru
  cases ku
  clear C3
  have Ra3 : Hid (Row encP 2 w3 _ a) := Ra2.out.below b3
  have Rb3 : Hid (Row encP 2 w3 _ b) := Rb2.out.below b3
  have Rx3 : Hid (Row encP 2 w3 _ a) := Rx2.out.below b3
  have B3 : Hid (Below w.heap.size w w3) := B2.out.trans (b3.mono B2.out.size)
  clear Ra2 Rb2 Rx2 B2
  clear b3
  have Ru3 : Hid (Row encP 2 w3 _ (unL a b)) := ru
  clear ru
  have C4 : Hid (Calls Try.prog 13 #[.slice aob b.length capb, .slice aoa a.length capa] w3 (Gives w3 (unL b a))) := by
    show Calls _ _ _ _ _
    have := union_g _ _ b a w3 Rb3.out Ra3.out (by omega)
    exact this
  go_wp2_with fail
  refine Calls.mono C4.out ?_
  rintro e w4 ⟨aov, nv, cv, rfl, rv, b4⟩
  obtain ⟨_, _, kv, _⟩ := id rv
  cases kv
  clear C4
  have Ra4 : Hid (Row encP 2 w4 _ a) := Ra3.out.below b4
  have Rb4 : Hid (Row encP 2 w4 _ b) := Rb3.out.below b4
  have Rx4 : Hid (Row encP 2 w4 _ a) := Rx3.out.below b4
  have Ru4 : Hid (Row encP 2 w4 _ (unL a b)) := Ru3.out.below b4
  have B4 : Hid (Below w.heap.size w w4) := B3.out.trans (b4.mono B3.out.size)
  clear Ra3 Rb3 Rx3 Ru3 B3
  clear b4
  have Rv4 : Hid (Row encP 2 w4 _ (unL b a)) := rv
  clear rv
  have C5 : Hid (Calls Try.prog 11 #[.slice aou (unL a b).length cu] w4 (Gives w4 (nmL (unL a b)))) := by
    show Calls _ _ _ _ _
    have := norm_g _ (unL a b) w4 Ru4.out (by have := unL_length a b; omega)
    exact this
  go_wp2_with fail
  refine Calls.mono C5.out ?_
  rintro e w5 ⟨aown, nwn, cwn, rfl, rwn, b5⟩
  obtain ⟨_, _, kwn, _⟩ := id rwn
  cases kwn
  clear C5
  have Ra5 : Hid (Row encP 2 w5 _ a) := Ra4.out.below b5
  have Rb5 : Hid (Row encP 2 w5 _ b) := Rb4.out.below b5
  have Rx5 : Hid (Row encP 2 w5 _ a) := Rx4.out.below b5
  have Ru5 : Hid (Row encP 2 w5 _ (unL a b)) := Ru4.out.below b5
  have Rv5 : Hid (Row encP 2 w5 _ (unL b a)) := Rv4.out.below b5
  have B5 : Hid (Below w.heap.size w w5) := B4.out.trans (b5.mono B4.out.size)
  clear Ra4 Rb4 Rx4 Ru4 Rv4 B4
  clear b5
  have Rwn5 : Hid (Row encP 2 w5 _ (nmL (unL a b))) := rwn
  clear rwn
  have C6 : Hid (Calls Try.prog 15 #[.slice aoa a.length capa, .slice aob b.length capb] w5 (Gives w5 (mnL a b))) := by
    show Calls _ _ _ _ _
    have := minus_g _ _ a b w5 Ra5.out Rb5.out (by omega)
    exact this
  go_wp2_with fail
  refine Calls.mono C6.out ?_
  rintro e w6 ⟨aor1, nr1, cr1, rfl, rr1, b6⟩
  obtain ⟨_, _, kr1, _⟩ := id rr1
  cases kr1
  clear C6
  have Ra6 : Hid (Row encP 2 w6 _ a) := Ra5.out.below b6
  have Rb6 : Hid (Row encP 2 w6 _ b) := Rb5.out.below b6
  have Rx6 : Hid (Row encP 2 w6 _ a) := Rx5.out.below b6
  have Ru6 : Hid (Row encP 2 w6 _ (unL a b)) := Ru5.out.below b6
  have Rv6 : Hid (Row encP 2 w6 _ (unL b a)) := Rv5.out.below b6
  have Rwn6 : Hid (Row encP 2 w6 _ (nmL (unL a b))) := Rwn5.out.below b6
  have B6 : Hid (Below w.heap.size w w6) := B5.out.trans (b6.mono B5.out.size)
  clear Ra5 Rb5 Rx5 Ru5 Rv5 Rwn5 B5
  clear b6
  have Rr16 : Hid (Row encP 2 w6 _ (mnL a b)) := rr1
  clear rr1
  have C7 : Hid (Calls Try.prog 16 #[.slice aoa a.length capa, .slice aob b.length capb] w6 (Gives w6 (meL a b))) := by
    show Calls _ _ _ _ _
    have := meet_g _ _ a b w6 Ra6.out Rb6.out (by omega)
    exact this
  go_wp2_with fail
  refine Calls.mono C7.out ?_
  rintro e w7 ⟨aor2, nr2, cr2, rfl, rr2, b7⟩
  obtain ⟨_, _, kr2, _⟩ := id rr2
  cases kr2
  clear C7
  have Ra7 : Hid (Row encP 2 w7 _ a) := Ra6.out.below b7
  have Rb7 : Hid (Row encP 2 w7 _ b) := Rb6.out.below b7
  have Rx7 : Hid (Row encP 2 w7 _ a) := Rx6.out.below b7
  have Ru7 : Hid (Row encP 2 w7 _ (unL a b)) := Ru6.out.below b7
  have Rv7 : Hid (Row encP 2 w7 _ (unL b a)) := Rv6.out.below b7
  have Rwn7 : Hid (Row encP 2 w7 _ (nmL (unL a b))) := Rwn6.out.below b7
  have Rr17 : Hid (Row encP 2 w7 _ (mnL a b)) := Rr16.out.below b7
  have B7 : Hid (Below w.heap.size w w7) := B6.out.trans (b7.mono B6.out.size)
  clear Ra6 Rb6 Rx6 Ru6 Rv6 Rwn6 Rr16 B6
  clear b7
  have Rr27 : Hid (Row encP 2 w7 _ (meL a b)) := rr2
  clear rr2
  have C8 : Hid (Calls Try.prog 13 #[.slice aor1 (mnL a b).length cr1, .slice aor2 (meL a b).length cr2] w7 (Gives w7 (unL (mnL a b) (meL a b)))) := by
    show Calls _ _ _ _ _
    have := union_g _ _ (mnL a b) (meL a b) w7 Rr17.out Rr27.out (by have := mnL_length a b; have := meL_length a b; omega)
    exact this
  go_wp2_with fail
  refine Calls.mono C8.out ?_
  rintro e w8 ⟨aobk, nbk, cbk, rfl, rbk, b8⟩
  obtain ⟨_, _, kbk, _⟩ := id rbk
  cases kbk
  clear C8
  have Ra8 : Hid (Row encP 2 w8 _ a) := Ra7.out.below b8
  have Rb8 : Hid (Row encP 2 w8 _ b) := Rb7.out.below b8
  have Rx8 : Hid (Row encP 2 w8 _ a) := Rx7.out.below b8
  have Ru8 : Hid (Row encP 2 w8 _ (unL a b)) := Ru7.out.below b8
  have Rv8 : Hid (Row encP 2 w8 _ (unL b a)) := Rv7.out.below b8
  have Rwn8 : Hid (Row encP 2 w8 _ (nmL (unL a b))) := Rwn7.out.below b8
  have Rr18 : Hid (Row encP 2 w8 _ (mnL a b)) := Rr17.out.below b8
  have Rr28 : Hid (Row encP 2 w8 _ (meL a b)) := Rr27.out.below b8
  have B8 : Hid (Below w.heap.size w w8) := B7.out.trans (b8.mono B7.out.size)
  clear Ra7 Rb7 Rx7 Ru7 Rv7 Rwn7 Rr17 Rr27 B7
  clear b8
  have Rbk8 : Hid (Row encP 2 w8 _ (unL (mnL a b) (meL a b))) := rbk
  clear rbk
  clear Rr18 Rr28
  have C9 : Hid (Calls Try.prog 10 #[.slice aou (unL a b).length cu, .slice aov (unL b a).length cv] w8 fun e w' => e = .returned (.bool true) ∧ Below w8.heap.size w8 w') := same_eq _ _ (unL a b) (unL b a) w8 Ru8.out Rv8.out (by have := unL_length a b; omega) (un_comm a b)
  go_wp2_with fail
  refine Calls.mono C9.out ?_
  rintro e w9 ⟨rfl, b9⟩
  clear C9
  have Ra9 : Hid (Row encP 2 w9 _ a) := Ra8.out.below b9
  have Rb9 : Hid (Row encP 2 w9 _ b) := Rb8.out.below b9
  have Rx9 : Hid (Row encP 2 w9 _ a) := Rx8.out.below b9
  have Ru9 : Hid (Row encP 2 w9 _ (unL a b)) := Ru8.out.below b9
  have Rv9 : Hid (Row encP 2 w9 _ (unL b a)) := Rv8.out.below b9
  have Rwn9 : Hid (Row encP 2 w9 _ (nmL (unL a b))) := Rwn8.out.below b9
  have Rbk9 : Hid (Row encP 2 w9 _ (unL (mnL a b) (meL a b))) := Rbk8.out.below b9
  have B9 : Hid (Below w.heap.size w w9) := B8.out.trans (b9.mono B8.out.size)
  clear Ra8 Rb8 Rx8 Ru8 Rv8 Rwn8 Rbk8 B8
  clear b9
  clear Rv9
  have C10 : Hid (Calls Try.prog 10 #[.slice aou (unL a b).length cu, .slice aown (nmL (unL a b)).length cwn] w9 fun e w' => e = .returned (.bool true) ∧ Below w9.heap.size w9 w') := same_eq _ _ (unL a b) (nmL (unL a b)) w9 Ru9.out Rwn9.out (by have := unL_length a b; omega) ((un_norm a b).symm)
  go_wp2_with fail
  refine Calls.mono C10.out ?_
  rintro e w10 ⟨rfl, b10⟩
  clear C10
  have Ra10 : Hid (Row encP 2 w10 _ a) := Ra9.out.below b10
  have Rb10 : Hid (Row encP 2 w10 _ b) := Rb9.out.below b10
  have Rx10 : Hid (Row encP 2 w10 _ a) := Rx9.out.below b10
  have Ru10 : Hid (Row encP 2 w10 _ (unL a b)) := Ru9.out.below b10
  have Rwn10 : Hid (Row encP 2 w10 _ (nmL (unL a b))) := Rwn9.out.below b10
  have Rbk10 : Hid (Row encP 2 w10 _ (unL (mnL a b) (meL a b))) := Rbk9.out.below b10
  have B10 : Hid (Below w.heap.size w w10) := B9.out.trans (b10.mono B9.out.size)
  clear Ra9 Rb9 Rx9 Ru9 Rwn9 Rbk9 B9
  clear b10
  clear Rwn10
  have C11 : Hid (Calls Try.prog 11 #[.slice aoa a.length capa] w10 (Gives w10 (nmL a))) := by
    show Calls _ _ _ _ _
    have := norm_g _ a w10 Ra10.out (by omega)
    exact this
  go_wp2_with fail
  refine Calls.mono C11.out ?_
  rintro e w11 ⟨aor3, nr3, cr3, rfl, rr3, b11⟩
  obtain ⟨_, _, kr3, _⟩ := id rr3
  cases kr3
  clear C11
  have Ra11 : Hid (Row encP 2 w11 _ a) := Ra10.out.below b11
  have Rb11 : Hid (Row encP 2 w11 _ b) := Rb10.out.below b11
  have Rx11 : Hid (Row encP 2 w11 _ a) := Rx10.out.below b11
  have Ru11 : Hid (Row encP 2 w11 _ (unL a b)) := Ru10.out.below b11
  have Rbk11 : Hid (Row encP 2 w11 _ (unL (mnL a b) (meL a b))) := Rbk10.out.below b11
  have B11 : Hid (Below w.heap.size w w11) := B10.out.trans (b11.mono B10.out.size)
  clear Ra10 Rb10 Rx10 Ru10 Rbk10 B10
  clear b11
  have Rr311 : Hid (Row encP 2 w11 _ (nmL a)) := rr3
  clear rr3
  have C12 : Hid (Calls Try.prog 10 #[.slice aobk (unL (mnL a b) (meL a b)).length cbk, .slice aor3 (nmL a).length cr3] w11 fun e w' => e = .returned (.bool true) ∧ Below w11.heap.size w11 w') := same_eq _ _ (unL (mnL a b) (meL a b)) (nmL a) w11 Rbk11.out Rr311.out (by have := mnL_length a b; have := meL_length a b; have := unL_length (mnL a b) (meL a b); omega) (back_norm a b)
  go_wp2_with fail
  refine Calls.mono C12.out ?_
  rintro e w12 ⟨rfl, b12⟩
  clear C12
  have Ra12 : Hid (Row encP 2 w12 _ a) := Ra11.out.below b12
  have Rb12 : Hid (Row encP 2 w12 _ b) := Rb11.out.below b12
  have Rx12 : Hid (Row encP 2 w12 _ a) := Rx11.out.below b12
  have Ru12 : Hid (Row encP 2 w12 _ (unL a b)) := Ru11.out.below b12
  have Rbk12 : Hid (Row encP 2 w12 _ (unL (mnL a b) (meL a b))) := Rbk11.out.below b12
  have Rr312 : Hid (Row encP 2 w12 _ (nmL a)) := Rr311.out.below b12
  have B12 : Hid (Below w.heap.size w w12) := B11.out.trans (b12.mono B11.out.size)
  clear Ra11 Rb11 Rx11 Ru11 Rbk11 Rr311 B11
  clear b12
  clear Rbk12 Rr312
  have C13 : Hid (Calls Try.prog 10 #[.slice aoa a.length capa, .slice ax2 a.length cx2] w12 fun e w' => e = .returned (.bool true) ∧ Below w12.heap.size w12 w') := same_eq _ _ a a w12 Ra12.out Rx12.out (by omega) (rfl)
  go_wp2_with fail
  refine Calls.mono C13.out ?_
  rintro e w13 ⟨rfl, b13⟩
  clear C13
  have Ra13 : Hid (Row encP 2 w13 _ a) := Ra12.out.below b13
  have Rb13 : Hid (Row encP 2 w13 _ b) := Rb12.out.below b13
  have Rx13 : Hid (Row encP 2 w13 _ a) := Rx12.out.below b13
  have Ru13 : Hid (Row encP 2 w13 _ (unL a b)) := Ru12.out.below b13
  have B13 : Hid (Below w.heap.size w w13) := B12.out.trans (b13.mono B12.out.size)
  clear Ra12 Rb12 Rx12 Ru12 B12
  clear b13
  clear Rx13 Ra13 Rb13
  have HC : Hid (Cn (unL a b)) := unL_cn a b
  have LU : (unL a b).length ≤ 80 := by have := unL_length a b; omega
  generalize unL a b = ul at *
  obtain ⟨_, _, eu, _, _, q3⟩ := id Ru13.out
  cases eu
  have H3 : Aside (ul ≠ [] → ∃ b off, aou = some ⟨b, off, none⟩ ∧ b < w13.heap.size ∧ CellsK encP 2 w13 b off ul) := q3
  clear q3
  go_wp2
  go_loopg [13] ul.length (fun kx s13 wr => ∃ (i : Nat), s13 = .int .i64 i ∧ i ≤ ul.length ∧ ul.length - i ≤ kx ∧ Hid (Below w13.heap.size w13 wr))
  case atStart => exact ⟨0, rfl, Nat.zero_le _, Nat.le_refl _, Below.refl _ _⟩
  case round =>
    obtain ⟨i, rfl, hi, hki, HB⟩ := hrel
    by_cases hil : i < ul.length
    · have hilz : (i : Int) < (ul.length : Int) := by omega
      obtain ⟨bk, off, rfl, hb, x1, x2⟩ := row_at H3.out i hil HB.out
      obtain ⟨y1, y2, y3⟩ := HC.out.1 ul[i]! (bang_mem hil)
      have nlt : decide (ul[i]!.2 < ul[i]!.1) = false := decide_eq_false (by omega)
      by_cases hi0 : i = 0
      · subst hi0
        generalize ul[0]! = x at *
        simp only [Nat.zero_mul, Nat.add_zero] at x1 x2
        go_wp2_with fail
        go_quiet (fail)
        have HD : Hid (Below w13.heap.size w13 (wr.drewN nq)) := by have := below_grown HB.out HB.out.size nq #[]; rw [grow_empty] at this; exact this
        go_wp2
        go_roundg (ul.length - 1)
        case measure => omega
        case rel => exact ⟨1, by go_num, by omega, Nat.le_refl _, HD⟩
      · obtain ⟨j, hj⟩ : ∃ j, i = j + 1 := ⟨i - 1, by omega⟩
        obtain ⟨bk2, off2, e2, _, z1, z2⟩ := row_at H3.out j (by omega) HB.out
        cases e2
        obtain ⟨u1, u2, u3⟩ := HC.out.1 ul[j]! (bang_mem (by omega))
        have hgap : ul[j]!.2 + 1 < ul[i]!.1 := by
          have := List.pairwise_iff_getElem.1 HC.out.2 j i (by omega) hil (by omega)
          rw [getElem!_pos ul j (by omega), getElem!_pos ul i hil]
          exact this
        generalize ul[i]! = x at *
        generalize ul[j]! = y at *
        have e1 : wrap64 (y.2 + 1) = y.2 + 1 := w64 (by omega) (by omega)
        have e3 : wrap64 ((i : Int) - 1) = j := by rw [w64 (by omega) (by omega)]; omega
        have ngap : decide (x.1 ≤ y.2 + 1) = false := decide_eq_false (by omega)
        have hjl : (j : Int) < (ul.length : Int) := by omega
        have hj0 : decide ((0 : Int) < (i : Int)) = true := decide_eq_true (by omega)
        have hj1 : decide (0 < i) = true := decide_eq_true (by omega)
        have e4 : IntKind.i64.wrap ((i : Int) - 1) = j := by rw [IntKind.wrap_i64]; omega
        have e5 : IntKind.i64.wrap (y.2 + 1) = y.2 + 1 := by rw [IntKind.wrap_i64]; omega
        have HJ : Hid (i = j + 1) := hj
        have HIL : Hid (i < ul.length) := hil
        clear hj hi0 hgap u1 u2 u3 y1 y2 y3 z1 HC H3
        go_wp2_with fail
        go_quiet (fail)
        have HD : Hid (Below w13.heap.size w13 (wr.drewN nq)) := by have := below_grown HB.out HB.out.size nq #[]; rw [grow_empty] at this; exact this
        go_wp2
        go_roundg (ul.length - (i + 1))
        case measure => omega
        case rel => exact ⟨i + 1, by go_num, by omega, Nat.le_refl _, HD⟩
    · have hilz : ¬ (i : Int) < (ul.length : Int) := by omega
      go_wp2
      go_ret
      exact ⟨rfl, B13.out.trans (HB.out.mono B13.out.size)⟩

theorem one (va : Value) (a : List Pr) (vb : Value) (b : List Pr) (w : World) (ha : Row encP 2 w va a) (hb : Row encP 2 w vb b) : Calls Try.prog 6 #[va, vb] w fun e w' => e = .returned (.bool true) ∧ Below w.heap.size w w' := by
  by_cases la : a.length ≤ 40
  rotate_left
  · exact one.long_a va a vb b w ha hb  (by omega)
  by_cases lb : b.length ≤ 40
  rotate_left
  · exact one.long_b va a vb b w ha hb la (by omega)
  exact one.short va a vb b w ha hb la lb

end Go.Proofs.Ytoigljefajbofaa

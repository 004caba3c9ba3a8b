/-
  The walk of the law RunsLogic.
-/
import Derived.Test.YtoigljefajbofaaRnLaw
namespace Go.Proofs.Ytoigljefajbofaa
open Go.Shelf Go.RowKit Go.Lib Go.Sort

theorem has_un (a b : List Pr) (n : Int) : hasB (unL a b) n = (hasB a n || hasB b n) := hasB_eq (by rw [unL_in, Bool.or_eq_true, hasB_iff, hasB_iff])
theorem has_mn (a b : List Pr) (n : Int) : hasB (mnL a b) n = (hasB a n && !hasB b n) := hasB_eq (by rw [mnL_in, Bool.and_eq_true, hasB_iff, Bool.not_eq_true', ← Bool.not_eq_true, hasB_iff])
theorem has_me (a b : List Pr) (n : Int) : hasB (meL a b) n = (hasB a n && hasB b n) := hasB_eq (by rw [meL_in, Bool.and_eq_true, hasB_iff, hasB_iff])
theorem has_one (m n : Int) : hasB [(m, m)] n = decide (n = m ∧ 0 ≤ n ∧ n ≤ 4294967295) := hasB_eq (by rw [inR_one, decide_eq_true_eq]; simp only; omega)
theorem has_is (v : Value) (l : List Pr) (n : Int) (f : Bool) (w : World) (h : Row encP 2 w v l) (hl : l.length ≤ 1000000) (hf : hasB l n = f) : Calls Try.prog 20 #[v, .int .i64 n] w fun e w' => e = .returned (.bool f) ∧ Below w.heap.size w w' := by
  subst hf
  exact has_any v l n w h hl

set_option maxRecDepth 100000 in
set_option maxHeartbeats 4000000 in
theorem logic.long_a (va : Value) (a : List Pr) (vb : Value) (b : List Pr) (n : Int) (m : Int) (w : World) (ha : Row encP 2 w va a) (hb : Row encP 2 w vb b) (la : 40 < a.length) : Calls Try.prog 5 #[va, vb, .int .i64 n, .int .i64 m] w fun e w' => e = .returned (.bool true) ∧ Below w.heap.size w w' := by
  obtain ⟨aoa, capa, rfl, _⟩ := id ha
  obtain ⟨aob, capb, rfl, _⟩ := id hb
  have ia : (40 : Int) < (a.length : Int) := by omega
  clear ha hb
  go_enter Try.func5, Try.ntmps5
  go_wp2_with fail
  refine (works_any _).mono ?_
  rintro e w1 ⟨rfl, b1⟩
  go_wp2
  go_ret
  exact ⟨rfl, b1⟩

set_option maxRecDepth 100000 in
set_option maxHeartbeats 4000000 in
theorem logic.long_b (va : Value) (a : List Pr) (vb : Value) (b : List Pr) (n : Int) (m : Int) (w : World) (ha : Row encP 2 w va a) (hb : Row encP 2 w vb b) (la : a.length ≤ 40) (lb : 40 < b.length) : Calls Try.prog 5 #[va, vb, .int .i64 n, .int .i64 m] w fun e w' => e = .returned (.bool true) ∧ Below w.heap.size w w' := by
  obtain ⟨aoa, capa, rfl, _⟩ := id ha
  obtain ⟨aob, capb, rfl, _⟩ := id hb
  have ia : ¬ (40 : Int) < (a.length : Int) := by omega
  have ib : (40 : Int) < (b.length : Int) := by omega
  clear ha hb
  go_enter Try.func5, Try.ntmps5
  go_wp2_with fail
  refine (works_any _).mono ?_
  rintro e w1 ⟨rfl, b1⟩
  go_wp2
  go_ret
  exact ⟨rfl, b1⟩

set_option maxRecDepth 100000 in
set_option maxHeartbeats 4000000 in
theorem logic.c0 (va : Value) (a : List Pr) (vb : Value) (b : List Pr) (n : Int) (m : Int) (w : World) (ha : Row encP 2 w va a) (hb : Row encP 2 w vb b) (la : a.length ≤ 40) (lb : b.length ≤ 40) (hx : hasB a n = true) (hy : hasB b n = true) (t0 : 0 ≤ n) (t1 : n ≤ 4294967295) (he : n = m) : Calls Try.prog 5 #[va, vb, .int .i64 n, .int .i64 m] w fun e w' => e = .returned (.bool true) ∧ Below w.heap.size w w' := by
  have HX : Hid (hasB a n = true) := hx
  have HY : Hid (hasB b n = true) := hy
  have E1 : Hid (hasB (unL a b) n = true) := by show _ = _; rw [has_un, hx, hy]; rfl
  have E2 : Hid (hasB (mnL a b) n = false) := by show _ = _; rw [has_mn, hx, hy]; rfl
  have E3 : Hid (hasB (meL a b) n = true) := by show _ = _; rw [has_me, hx, hy]; rfl
  have E4 : Hid (hasB (unL a [(m, m)]) n = true) := by show _ = _; rw [has_un, hx, has_one]; rfl
  have E5 : Hid (hasB (mnL a [(m, m)]) n = false) := by show _ = _; rw [has_mn, hx, has_one]; simp only [Bool.true_and]; rw [decide_eq_true (by omega)]; rfl
  have CE : Hid (cntL (unL a b) + cntL (meL a b) = cntL (nmL a) + cntL (nmL b)) := cnt_un_me a b
  have cb1 := cnt_le (unL_cn a b)
  have cb2 := cnt_le (meL_cn a b)
  have cb3 := cnt_le (nmL_cn a)
  have cb4 := cnt_le (nmL_cn b)
  obtain ⟨cu, hcu⟩ : ∃ k, cntL (unL a b) = k := ⟨_, rfl⟩
  obtain ⟨cm, hcm⟩ : ∃ k, cntL (meL a b) = k := ⟨_, rfl⟩
  obtain ⟨ca, hca⟩ : ∃ k, cntL (nmL a) = k := ⟨_, rfl⟩
  obtain ⟨cb, hcb⟩ : ∃ k, cntL (nmL b) = k := ⟨_, rfl⟩
  rw [hcu] at cb1
  rw [hcm] at cb2
  rw [hca] at cb3
  rw [hcb] at cb4
  rw [hcu, hcm, hca, hcb] at CE
  have Hcu : Hid _ := hcu
  have Hcm : Hid _ := hcm
  have Hca : Hid _ := hca
  have Hcb : Hid _ := hcb
  clear hcu hcm hca hcb
  have w1e : wrap64 (cu + cm) = cu + cm := w64 (by omega) (by omega)
  have w2e : wrap64 (ca + cb) = ca + cb := w64 (by omega) (by omega)
  have ceq : (cu + cm == ca + cb) = true := beq_iff_eq.2 CE.out
  have ne1 : (n == m) = true := beq_iff_eq.2 he
  have ne2 : (n != m) = false := by unfold bne; rw [ne1]; rfl
  clear hx hy he CE
  have Ra0 : Hid (Row encP 2 w va a) := ha
  obtain ⟨aoa, capa, rfl, _⟩ := id ha
  have Rb0 : Hid (Row encP 2 w vb b) := hb
  obtain ⟨aob, capb, rfl, _⟩ := id hb
  clear ha hb
  have B0 : Hid (Below w.heap.size w w) := Below.refl _ _
  have ia : ¬ (40 : Int) < (a.length : Int) := by omega
  have ib : ¬ (40 : Int) < (b.length : Int) := by omega
  go_enter Try.func5, Try.ntmps5
  have C1 : Hid (Calls Try.prog 9 #[] w fun e w' => e = .returned (.bool true) ∧ Below w.heap.size w w') := works_any w
  go_wp2_with fail
  refine Calls.mono C1.out ?_
  rintro e w1 ⟨rfl, b1⟩
  clear C1
  have Ra1 : Hid (Row encP 2 w1 _ a) := Ra0.out.below b1
  have Rb1 : Hid (Row encP 2 w1 _ b) := Rb0.out.below b1
  have B1 : Hid (Below w.heap.size w w1) := B0.out.trans (b1.mono B0.out.size)
  clear Ra0 Rb0 B0
  clear b1
  have C2 : Hid (Calls Try.prog 20 #[.slice aoa a.length capa, .int .i64 n] w1 fun e w' => e = .returned (.bool true) ∧ Below w1.heap.size w1 w') := has_is _ a n true w1 Ra1.out (by omega) HX.out
  go_wp2_with fail
  refine Calls.mono C2.out ?_
  rintro e w2 ⟨rfl, b2⟩
  clear C2
  have Ra2 : Hid (Row encP 2 w2 _ a) := Ra1.out.below b2
  have Rb2 : Hid (Row encP 2 w2 _ b) := Rb1.out.below b2
  have B2 : Hid (Below w.heap.size w w2) := B1.out.trans (b2.mono B1.out.size)
  clear Ra1 Rb1 B1
  clear b2
  have C3 : Hid (Calls Try.prog 20 #[.slice aob b.length capb, .int .i64 n] w2 fun e w' => e = .returned (.bool true) ∧ Below w2.heap.size w2 w') := has_is _ b n true w2 Rb2.out (by omega) HY.out
  go_wp2_with fail
  refine Calls.mono C3.out ?_
  rintro e w3 ⟨rfl, b3⟩
  clear C3
  have Ra3 : Hid (Row encP 2 w3 _ a) := Ra2.out.below b3
  have Rb3 : Hid (Row encP 2 w3 _ b) := Rb2.out.below b3
  have B3 : Hid (Below w.heap.size w w3) := B2.out.trans (b3.mono B2.out.size)
  clear Ra2 Rb2 B2
  clear b3
  have C4 : Hid (Calls Try.prog 13 #[.slice aoa a.length capa, .slice aob b.length capb] w3 (Gives w3 (unL a b))) := by
    show Calls _ _ _ _ _
    have := union_g _ _ a b w3 Ra3.out Rb3.out (by omega)
    exact this
  go_wp2_with fail
  refine Calls.mono C4.out ?_
  rintro e w4 ⟨aor1, nr1, cr1, rfl, rr1, b4⟩
  obtain ⟨_, _, kr1, _⟩ := id rr1
  cases kr1
  clear C4
  have Ra4 : Hid (Row encP 2 w4 _ a) := Ra3.out.below b4
  have Rb4 : Hid (Row encP 2 w4 _ b) := Rb3.out.below b4
  have B4 : Hid (Below w.heap.size w w4) := B3.out.trans (b4.mono B3.out.size)
  clear Ra3 Rb3 B3
  clear b4
  have Rr14 : Hid (Row encP 2 w4 _ (unL a b)) := rr1
  clear rr1
  have C5 : Hid (Calls Try.prog 20 #[.slice aor1 (unL a b).length cr1, .int .i64 n] w4 fun e w' => e = .returned (.bool true) ∧ Below w4.heap.size w4 w') := has_is _ (unL a b) n true w4 Rr14.out (by have := unL_length a b; omega) E1.out
  go_wp2_with fail
  refine Calls.mono C5.out ?_
  rintro e w5 ⟨rfl, b5⟩
  clear C5
  have Ra5 : Hid (Row encP 2 w5 _ a) := Ra4.out.below b5
  have Rb5 : Hid (Row encP 2 w5 _ b) := Rb4.out.below b5
  have Rr15 : Hid (Row encP 2 w5 _ (unL a b)) := Rr14.out.below b5
  have B5 : Hid (Below w.heap.size w w5) := B4.out.trans (b5.mono B4.out.size)
  clear Ra4 Rb4 Rr14 B4
  clear b5
  clear Rr15
  have C6 : Hid (Calls Try.prog 15 #[.slice aoa a.length capa, .slice aob b.length capb] w5 (Gives w5 (mnL a b))) := by
    show Calls _ _ _ _ _
    have := minus_g _ _ a b w5 Ra5.out Rb5.out (by omega)
    exact this
  go_wp2_with fail
  refine Calls.mono C6.out ?_
  rintro e w6 ⟨aor2, nr2, cr2, rfl, rr2, b6⟩
  obtain ⟨_, _, kr2, _⟩ := id rr2
  cases kr2
  clear C6
  have Ra6 : Hid (Row encP 2 w6 _ a) := Ra5.out.below b6
  have Rb6 : Hid (Row encP 2 w6 _ b) := Rb5.out.below b6
  have B6 : Hid (Below w.heap.size w w6) := B5.out.trans (b6.mono B5.out.size)
  clear Ra5 Rb5 B5
  clear b6
  have Rr26 : Hid (Row encP 2 w6 _ (mnL a b)) := rr2
  clear rr2
  have C7 : Hid (Calls Try.prog 20 #[.slice aor2 (mnL a b).length cr2, .int .i64 n] w6 fun e w' => e = .returned (.bool false) ∧ Below w6.heap.size w6 w') := has_is _ (mnL a b) n false w6 Rr26.out (by have := mnL_length a b; omega) E2.out
  go_wp2_with fail
  refine Calls.mono C7.out ?_
  rintro e w7 ⟨rfl, b7⟩
  clear C7
  have Ra7 : Hid (Row encP 2 w7 _ a) := Ra6.out.below b7
  have Rb7 : Hid (Row encP 2 w7 _ b) := Rb6.out.below b7
  have Rr27 : Hid (Row encP 2 w7 _ (mnL a b)) := Rr26.out.below b7
  have B7 : Hid (Below w.heap.size w w7) := B6.out.trans (b7.mono B6.out.size)
  clear Ra6 Rb6 Rr26 B6
  clear b7
  clear Rr27
  have C8 : Hid (Calls Try.prog 16 #[.slice aoa a.length capa, .slice aob b.length capb] w7 (Gives w7 (meL a b))) := by
    show Calls _ _ _ _ _
    have := meet_g _ _ a b w7 Ra7.out Rb7.out (by omega)
    exact this
  go_wp2_with fail
  refine Calls.mono C8.out ?_
  rintro e w8 ⟨aor3, nr3, cr3, rfl, rr3, b8⟩
  obtain ⟨_, _, kr3, _⟩ := id rr3
  cases kr3
  clear C8
  have Ra8 : Hid (Row encP 2 w8 _ a) := Ra7.out.below b8
  have Rb8 : Hid (Row encP 2 w8 _ b) := Rb7.out.below b8
  have B8 : Hid (Below w.heap.size w w8) := B7.out.trans (b8.mono B7.out.size)
  clear Ra7 Rb7 B7
  clear b8
  have Rr38 : Hid (Row encP 2 w8 _ (meL a b)) := rr3
  clear rr3
  have C9 : Hid (Calls Try.prog 20 #[.slice aor3 (meL a b).length cr3, .int .i64 n] w8 fun e w' => e = .returned (.bool true) ∧ Below w8.heap.size w8 w') := has_is _ (meL a b) n true w8 Rr38.out (by have := meL_length a b; omega) E3.out
  go_wp2_with fail
  refine Calls.mono C9.out ?_
  rintro e w9 ⟨rfl, b9⟩
  clear C9
  have Ra9 : Hid (Row encP 2 w9 _ a) := Ra8.out.below b9
  have Rb9 : Hid (Row encP 2 w9 _ b) := Rb8.out.below b9
  have Rr39 : Hid (Row encP 2 w9 _ (meL a b)) := Rr38.out.below b9
  have B9 : Hid (Below w.heap.size w w9) := B8.out.trans (b9.mono B8.out.size)
  clear Ra8 Rb8 Rr38 B8
  clear b9
  clear Rr39
  have C10 : Hid (Calls Try.prog 17 #[.slice aoa a.length capa, .int .i64 m] w9 (Gives w9 (unL a [(m, m)]))) := by
    show Calls _ _ _ _ _
    have := add_g _ a m w9 Ra9.out (by omega)
    exact this
  go_wp2_with fail
  refine Calls.mono C10.out ?_
  rintro e w10 ⟨aor4, nr4, cr4, rfl, rr4, b10⟩
  obtain ⟨_, _, kr4, _⟩ := id rr4
  cases kr4
  clear C10
  have Ra10 : Hid (Row encP 2 w10 _ a) := Ra9.out.below b10
  have Rb10 : Hid (Row encP 2 w10 _ b) := Rb9.out.below b10
  have B10 : Hid (Below w.heap.size w w10) := B9.out.trans (b10.mono B9.out.size)
  clear Ra9 Rb9 B9
  clear b10
  have Rr410 : Hid (Row encP 2 w10 _ (unL a [(m, m)])) := rr4
  clear rr4
  have C11 : Hid (Calls Try.prog 20 #[.slice aor4 (unL a [(m, m)]).length cr4, .int .i64 n] w10 fun e w' => e = .returned (.bool true) ∧ Below w10.heap.size w10 w') := has_is _ (unL a [(m, m)]) n true w10 Rr410.out (by have := len_one m; have := unL_length a [(m, m)]; omega) E4.out
  go_wp2_with fail
  refine Calls.mono C11.out ?_
  rintro e w11 ⟨rfl, b11⟩
  clear C11
  have Ra11 : Hid (Row encP 2 w11 _ a) := Ra10.out.below b11
  have Rb11 : Hid (Row encP 2 w11 _ b) := Rb10.out.below b11
  have Rr411 : Hid (Row encP 2 w11 _ (unL a [(m, m)])) := Rr410.out.below b11
  have B11 : Hid (Below w.heap.size w w11) := B10.out.trans (b11.mono B10.out.size)
  clear Ra10 Rb10 Rr410 B10
  clear b11
  clear Rr411
  have C12 : Hid (Calls Try.prog 18 #[.slice aoa a.length capa, .int .i64 m] w11 (Gives w11 (mnL a [(m, m)]))) := by
    show Calls _ _ _ _ _
    have := remove_g _ a m w11 Ra11.out (by omega)
    exact this
  go_wp2_with fail
  refine Calls.mono C12.out ?_
  rintro e w12 ⟨aor5, nr5, cr5, rfl, rr5, b12⟩
  obtain ⟨_, _, kr5, _⟩ := id rr5
  cases kr5
  clear C12
  have Ra12 : Hid (Row encP 2 w12 _ a) := Ra11.out.below b12
  have Rb12 : Hid (Row encP 2 w12 _ b) := Rb11.out.below b12
  have B12 : Hid (Below w.heap.size w w12) := B11.out.trans (b12.mono B11.out.size)
  clear Ra11 Rb11 B11
  clear b12
  have Rr512 : Hid (Row encP 2 w12 _ (mnL a [(m, m)])) := rr5
  clear rr5
  have C13 : Hid (Calls Try.prog 20 #[.slice aor5 (mnL a [(m, m)]).length cr5, .int .i64 n] w12 fun e w' => e = .returned (.bool false) ∧ Below w12.heap.size w12 w') := has_is _ (mnL a [(m, m)]) n false w12 Rr512.out (by have := len_one m; have := mnL_length a [(m, m)]; omega) E5.out
  go_wp2_with fail
  refine Calls.mono C13.out ?_
  rintro e w13 ⟨rfl, b13⟩
  clear C13
  have Ra13 : Hid (Row encP 2 w13 _ a) := Ra12.out.below b13
  have Rb13 : Hid (Row encP 2 w13 _ b) := Rb12.out.below b13
  have Rr513 : Hid (Row encP 2 w13 _ (mnL a [(m, m)])) := Rr512.out.below b13
  have B13 : Hid (Below w.heap.size w w13) := B12.out.trans (b13.mono B12.out.size)
  clear Ra12 Rb12 Rr512 B12
  clear b13
  clear Rr513
  have C14 : Hid (Calls Try.prog 13 #[.slice aoa a.length capa, .slice aob b.length capb] w13 (Gives w13 (unL a b))) := by
    show Calls _ _ _ _ _
    have := union_g _ _ a b w13 Ra13.out Rb13.out (by omega)
    exact this
  go_wp2_with fail
  refine Calls.mono C14.out ?_
  rintro e w14 ⟨aor6, nr6, cr6, rfl, rr6, b14⟩
  obtain ⟨_, _, kr6, _⟩ := id rr6
  cases kr6
  clear C14
  have Ra14 : Hid (Row encP 2 w14 _ a) := Ra13.out.below b14
  have Rb14 : Hid (Row encP 2 w14 _ b) := Rb13.out.below b14
  have B14 : Hid (Below w.heap.size w w14) := B13.out.trans (b14.mono B13.out.size)
  clear Ra13 Rb13 B13
  clear b14
  have Rr614 : Hid (Row encP 2 w14 _ (unL a b)) := rr6
  clear rr6
  have C15 : Hid (Calls Try.prog 22 #[.slice aor6 (unL a b).length cr6] w14 fun e w' => e = .returned (.int .i64 cu) ∧ Below w14.heap.size w14 w') := by show Calls _ _ _ _ _; have := count_cn _ _ w14 Rr614.out (unL_cn a b) (by have := unL_length a b; omega); rw [Hcu.out] at this; exact this
  go_wp2_with fail
  refine Calls.mono C15.out ?_
  rintro e w15 ⟨rfl, b15⟩
  clear C15
  have Ra15 : Hid (Row encP 2 w15 _ a) := Ra14.out.below b15
  have Rb15 : Hid (Row encP 2 w15 _ b) := Rb14.out.below b15
  have Rr615 : Hid (Row encP 2 w15 _ (unL a b)) := Rr614.out.below b15
  have B15 : Hid (Below w.heap.size w w15) := B14.out.trans (b15.mono B14.out.size)
  clear Ra14 Rb14 Rr614 B14
  clear b15
  clear Rr615
  have C16 : Hid (Calls Try.prog 16 #[.slice aoa a.length capa, .slice aob b.length capb] w15 (Gives w15 (meL a b))) := by
    show Calls _ _ _ _ _
    have := meet_g _ _ a b w15 Ra15.out Rb15.out (by omega)
    exact this
  go_wp2_with fail
  refine Calls.mono C16.out ?_
  rintro e w16 ⟨aor7, nr7, cr7, rfl, rr7, b16⟩
  obtain ⟨_, _, kr7, _⟩ := id rr7
  cases kr7
  clear C16
  have Ra16 : Hid (Row encP 2 w16 _ a) := Ra15.out.below b16
  have Rb16 : Hid (Row encP 2 w16 _ b) := Rb15.out.below b16
  have B16 : Hid (Below w.heap.size w w16) := B15.out.trans (b16.mono B15.out.size)
  clear Ra15 Rb15 B15
  clear b16
  have Rr716 : Hid (Row encP 2 w16 _ (meL a b)) := rr7
  clear rr7
  have C17 : Hid (Calls Try.prog 22 #[.slice aor7 (meL a b).length cr7] w16 fun e w' => e = .returned (.int .i64 cm) ∧ Below w16.heap.size w16 w') := by show Calls _ _ _ _ _; have := count_cn _ _ w16 Rr716.out (meL_cn a b) (by have := meL_length a b; omega); rw [Hcm.out] at this; exact this
  go_wp2_with fail
  refine Calls.mono C17.out ?_
  rintro e w17 ⟨rfl, b17⟩
  clear C17
  have Ra17 : Hid (Row encP 2 w17 _ a) := Ra16.out.below b17
  have Rb17 : Hid (Row encP 2 w17 _ b) := Rb16.out.below b17
  have Rr717 : Hid (Row encP 2 w17 _ (meL a b)) := Rr716.out.below b17
  have B17 : Hid (Below w.heap.size w w17) := B16.out.trans (b17.mono B16.out.size)
  clear Ra16 Rb16 Rr716 B16
  clear b17
  clear Rr717
  have C18 : Hid (Calls Try.prog 22 #[.slice aoa a.length capa] w17 fun e w' => e = .returned (.int .i64 ca) ∧ Below w17.heap.size w17 w') := by show Calls _ _ _ _ _; have := count_any _ _ w17 Ra17.out (by omega); rw [Hca.out] at this; exact this
  go_wp2_with fail
  refine Calls.mono C18.out ?_
  rintro e w18 ⟨rfl, b18⟩
  clear C18
  have Ra18 : Hid (Row encP 2 w18 _ a) := Ra17.out.below b18
  have Rb18 : Hid (Row encP 2 w18 _ b) := Rb17.out.below b18
  have B18 : Hid (Below w.heap.size w w18) := B17.out.trans (b18.mono B17.out.size)
  clear Ra17 Rb17 B17
  clear b18
  have C19 : Hid (Calls Try.prog 22 #[.slice aob b.length capb] w18 fun e w' => e = .returned (.int .i64 cb) ∧ Below w18.heap.size w18 w') := by show Calls _ _ _ _ _; have := count_any _ _ w18 Rb18.out (by omega); rw [Hcb.out] at this; exact this
  go_wp2_with fail
  refine Calls.mono C19.out ?_
  rintro e w19 ⟨rfl, b19⟩
  clear C19
  have Ra19 : Hid (Row encP 2 w19 _ a) := Ra18.out.below b19
  have Rb19 : Hid (Row encP 2 w19 _ b) := Rb18.out.below b19
  have B19 : Hid (Below w.heap.size w w19) := B18.out.trans (b19.mono B18.out.size)
  clear Ra18 Rb18 B18
  clear b19
  go_wp2
  go_ret
  exact ⟨rfl, B19.out⟩

set_option maxRecDepth 100000 in
set_option maxHeartbeats 4000000 in
theorem logic.c1 (va : Value) (a : List Pr) (vb : Value) (b : List Pr) (n : Int) (m : Int) (w : World) (ha : Row encP 2 w va a) (hb : Row encP 2 w vb b) (la : a.length ≤ 40) (lb : b.length ≤ 40) (hx : hasB a n = true) (hy : hasB b n = true) (t0 : 0 ≤ n) (t1 : n ≤ 4294967295) (he : n ≠ m) : Calls Try.prog 5 #[va, vb, .int .i64 n, .int .i64 m] w fun e w' => e = .returned (.bool true) ∧ Below w.heap.size w w' := by
  have HX : Hid (hasB a n = true) := hx
  have HY : Hid (hasB b n = true) := hy
  have E1 : Hid (hasB (unL a b) n = true) := by show _ = _; rw [has_un, hx, hy]; rfl
  have E2 : Hid (hasB (mnL a b) n = false) := by show _ = _; rw [has_mn, hx, hy]; rfl
  have E3 : Hid (hasB (meL a b) n = true) := by show _ = _; rw [has_me, hx, hy]; rfl
  have E4 : Hid (hasB (unL a [(m, m)]) n = true) := by show _ = _; rw [has_un, hx, has_one]; rfl
  have E5 : Hid (hasB (mnL a [(m, m)]) n = true) := by show _ = _; rw [has_mn, hx, has_one]; simp only [Bool.true_and]; rw [decide_eq_false (by omega)]; rfl
  have CE : Hid (cntL (unL a b) + cntL (meL a b) = cntL (nmL a) + cntL (nmL b)) := cnt_un_me a b
  have cb1 := cnt_le (unL_cn a b)
  have cb2 := cnt_le (meL_cn a b)
  have cb3 := cnt_le (nmL_cn a)
  have cb4 := cnt_le (nmL_cn b)
  obtain ⟨cu, hcu⟩ : ∃ k, cntL (unL a b) = k := ⟨_, rfl⟩
  obtain ⟨cm, hcm⟩ : ∃ k, cntL (meL a b) = k := ⟨_, rfl⟩
  obtain ⟨ca, hca⟩ : ∃ k, cntL (nmL a) = k := ⟨_, rfl⟩
  obtain ⟨cb, hcb⟩ : ∃ k, cntL (nmL b) = k := ⟨_, rfl⟩
  rw [hcu] at cb1
  rw [hcm] at cb2
  rw [hca] at cb3
  rw [hcb] at cb4
  rw [hcu, hcm, hca, hcb] at CE
  have Hcu : Hid _ := hcu
  have Hcm : Hid _ := hcm
  have Hca : Hid _ := hca
  have Hcb : Hid _ := hcb
  clear hcu hcm hca hcb
  have w1e : wrap64 (cu + cm) = cu + cm := w64 (by omega) (by omega)
  have w2e : wrap64 (ca + cb) = ca + cb := w64 (by omega) (by omega)
  have ceq : (cu + cm == ca + cb) = true := beq_iff_eq.2 CE.out
  have ne1 : (n == m) = false := beq_eq_false_iff_ne.2 he
  have ne2 : (n != m) = true := by unfold bne; rw [ne1]; rfl
  clear hx hy he CE
  have Ra0 : Hid (Row encP 2 w va a) := ha
  obtain ⟨aoa, capa, rfl, _⟩ := id ha
  have Rb0 : Hid (Row encP 2 w vb b) := hb
  obtain ⟨aob, capb, rfl, _⟩ := id hb
  clear ha hb
  have B0 : Hid (Below w.heap.size w w) := Below.refl _ _
  have ia : ¬ (40 : Int) < (a.length : Int) := by omega
  have ib : ¬ (40 : Int) < (b.length : Int) := by omega
  go_enter Try.func5, Try.ntmps5
  have C1 : Hid (Calls Try.prog 9 #[] w fun e w' => e = .returned (.bool true) ∧ Below w.heap.size w w') := works_any w
  go_wp2_with fail
  refine Calls.mono C1.out ?_
  rintro e w1 ⟨rfl, b1⟩
  clear C1
  have Ra1 : Hid (Row encP 2 w1 _ a) := Ra0.out.below b1
  have Rb1 : Hid (Row encP 2 w1 _ b) := Rb0.out.below b1
  have B1 : Hid (Below w.heap.size w w1) := B0.out.trans (b1.mono B0.out.size)
  clear Ra0 Rb0 B0
  clear b1
  have C2 : Hid (Calls Try.prog 20 #[.slice aoa a.length capa, .int .i64 n] w1 fun e w' => e = .returned (.bool true) ∧ Below w1.heap.size w1 w') := has_is _ a n true w1 Ra1.out (by omega) HX.out
  go_wp2_with fail
  refine Calls.mono C2.out ?_
  rintro e w2 ⟨rfl, b2⟩
  clear C2
  have Ra2 : Hid (Row encP 2 w2 _ a) := Ra1.out.below b2
  have Rb2 : Hid (Row encP 2 w2 _ b) := Rb1.out.below b2
  have B2 : Hid (Below w.heap.size w w2) := B1.out.trans (b2.mono B1.out.size)
  clear Ra1 Rb1 B1
  clear b2
  have C3 : Hid (Calls Try.prog 20 #[.slice aob b.length capb, .int .i64 n] w2 fun e w' => e = .returned (.bool true) ∧ Below w2.heap.size w2 w') := has_is _ b n true w2 Rb2.out (by omega) HY.out
  go_wp2_with fail
  refine Calls.mono C3.out ?_
  rintro e w3 ⟨rfl, b3⟩
  clear C3
  have Ra3 : Hid (Row encP 2 w3 _ a) := Ra2.out.below b3
  have Rb3 : Hid (Row encP 2 w3 _ b) := Rb2.out.below b3
  have B3 : Hid (Below w.heap.size w w3) := B2.out.trans (b3.mono B2.out.size)
  clear Ra2 Rb2 B2
  clear b3
  have C4 : Hid (Calls Try.prog 13 #[.slice aoa a.length capa, .slice aob b.length capb] w3 (Gives w3 (unL a b))) := by
    show Calls _ _ _ _ _
    have := union_g _ _ a b w3 Ra3.out Rb3.out (by omega)
    exact this
  go_wp2_with fail
  refine Calls.mono C4.out ?_
  rintro e w4 ⟨aor1, nr1, cr1, rfl, rr1, b4⟩
  obtain ⟨_, _, kr1, _⟩ := id rr1
  cases kr1
  clear C4
  have Ra4 : Hid (Row encP 2 w4 _ a) := Ra3.out.below b4
  have Rb4 : Hid (Row encP 2 w4 _ b) := Rb3.out.below b4
  have B4 : Hid (Below w.heap.size w w4) := B3.out.trans (b4.mono B3.out.size)
  clear Ra3 Rb3 B3
  clear b4
  have Rr14 : Hid (Row encP 2 w4 _ (unL a b)) := rr1
  clear rr1
  have C5 : Hid (Calls Try.prog 20 #[.slice aor1 (unL a b).length cr1, .int .i64 n] w4 fun e w' => e = .returned (.bool true) ∧ Below w4.heap.size w4 w') := has_is _ (unL a b) n true w4 Rr14.out (by have := unL_length a b; omega) E1.out
  go_wp2_with fail
  refine Calls.mono C5.out ?_
  rintro e w5 ⟨rfl, b5⟩
  clear C5
  have Ra5 : Hid (Row encP 2 w5 _ a) := Ra4.out.below b5
  have Rb5 : Hid (Row encP 2 w5 _ b) := Rb4.out.below b5
  have Rr15 : Hid (Row encP 2 w5 _ (unL a b)) := Rr14.out.below b5
  have B5 : Hid (Below w.heap.size w w5) := B4.out.trans (b5.mono B4.out.size)
  clear Ra4 Rb4 Rr14 B4
  clear b5
  clear Rr15
  have C6 : Hid (Calls Try.prog 15 #[.slice aoa a.length capa, .slice aob b.length capb] w5 (Gives w5 (mnL a b))) := by
    show Calls _ _ _ _ _
    have := minus_g _ _ a b w5 Ra5.out Rb5.out (by omega)
    exact this
  go_wp2_with fail
  refine Calls.mono C6.out ?_
  rintro e w6 ⟨aor2, nr2, cr2, rfl, rr2, b6⟩
  obtain ⟨_, _, kr2, _⟩ := id rr2
  cases kr2
  clear C6
  have Ra6 : Hid (Row encP 2 w6 _ a) := Ra5.out.below b6
  have Rb6 : Hid (Row encP 2 w6 _ b) := Rb5.out.below b6
  have B6 : Hid (Below w.heap.size w w6) := B5.out.trans (b6.mono B5.out.size)
  clear Ra5 Rb5 B5
  clear b6
  have Rr26 : Hid (Row encP 2 w6 _ (mnL a b)) := rr2
  clear rr2
  have C7 : Hid (Calls Try.prog 20 #[.slice aor2 (mnL a b).length cr2, .int .i64 n] w6 fun e w' => e = .returned (.bool false) ∧ Below w6.heap.size w6 w') := has_is _ (mnL a b) n false w6 Rr26.out (by have := mnL_length a b; omega) E2.out
  go_wp2_with fail
  refine Calls.mono C7.out ?_
  rintro e w7 ⟨rfl, b7⟩
  clear C7
  have Ra7 : Hid (Row encP 2 w7 _ a) := Ra6.out.below b7
  have Rb7 : Hid (Row encP 2 w7 _ b) := Rb6.out.below b7
  have Rr27 : Hid (Row encP 2 w7 _ (mnL a b)) := Rr26.out.below b7
  have B7 : Hid (Below w.heap.size w w7) := B6.out.trans (b7.mono B6.out.size)
  clear Ra6 Rb6 Rr26 B6
  clear b7
  clear Rr27
  have C8 : Hid (Calls Try.prog 16 #[.slice aoa a.length capa, .slice aob b.length capb] w7 (Gives w7 (meL a b))) := by
    show Calls _ _ _ _ _
    have := meet_g _ _ a b w7 Ra7.out Rb7.out (by omega)
    exact this
  go_wp2_with fail
  refine Calls.mono C8.out ?_
  rintro e w8 ⟨aor3, nr3, cr3, rfl, rr3, b8⟩
  obtain ⟨_, _, kr3, _⟩ := id rr3
  cases kr3
  clear C8
  have Ra8 : Hid (Row encP 2 w8 _ a) := Ra7.out.below b8
  have Rb8 : Hid (Row encP 2 w8 _ b) := Rb7.out.below b8
  have B8 : Hid (Below w.heap.size w w8) := B7.out.trans (b8.mono B7.out.size)
  clear Ra7 Rb7 B7
  clear b8
  have Rr38 : Hid (Row encP 2 w8 _ (meL a b)) := rr3
  clear rr3
  have C9 : Hid (Calls Try.prog 20 #[.slice aor3 (meL a b).length cr3, .int .i64 n] w8 fun e w' => e = .returned (.bool true) ∧ Below w8.heap.size w8 w') := has_is _ (meL a b) n true w8 Rr38.out (by have := meL_length a b; omega) E3.out
  go_wp2_with fail
  refine Calls.mono C9.out ?_
  rintro e w9 ⟨rfl, b9⟩
  clear C9
  have Ra9 : Hid (Row encP 2 w9 _ a) := Ra8.out.below b9
  have Rb9 : Hid (Row encP 2 w9 _ b) := Rb8.out.below b9
  have Rr39 : Hid (Row encP 2 w9 _ (meL a b)) := Rr38.out.below b9
  have B9 : Hid (Below w.heap.size w w9) := B8.out.trans (b9.mono B8.out.size)
  clear Ra8 Rb8 Rr38 B8
  clear b9
  clear Rr39
  have C10 : Hid (Calls Try.prog 17 #[.slice aoa a.length capa, .int .i64 m] w9 (Gives w9 (unL a [(m, m)]))) := by
    show Calls _ _ _ _ _
    have := add_g _ a m w9 Ra9.out (by omega)
    exact this
  go_wp2_with fail
  refine Calls.mono C10.out ?_
  rintro e w10 ⟨aor4, nr4, cr4, rfl, rr4, b10⟩
  obtain ⟨_, _, kr4, _⟩ := id rr4
  cases kr4
  clear C10
  have Ra10 : Hid (Row encP 2 w10 _ a) := Ra9.out.below b10
  have Rb10 : Hid (Row encP 2 w10 _ b) := Rb9.out.below b10
  have B10 : Hid (Below w.heap.size w w10) := B9.out.trans (b10.mono B9.out.size)
  clear Ra9 Rb9 B9
  clear b10
  have Rr410 : Hid (Row encP 2 w10 _ (unL a [(m, m)])) := rr4
  clear rr4
  have C11 : Hid (Calls Try.prog 20 #[.slice aor4 (unL a [(m, m)]).length cr4, .int .i64 n] w10 fun e w' => e = .returned (.bool true) ∧ Below w10.heap.size w10 w') := has_is _ (unL a [(m, m)]) n true w10 Rr410.out (by have := len_one m; have := unL_length a [(m, m)]; omega) E4.out
  go_wp2_with fail
  refine Calls.mono C11.out ?_
  rintro e w11 ⟨rfl, b11⟩
  clear C11
  have Ra11 : Hid (Row encP 2 w11 _ a) := Ra10.out.below b11
  have Rb11 : Hid (Row encP 2 w11 _ b) := Rb10.out.below b11
  have Rr411 : Hid (Row encP 2 w11 _ (unL a [(m, m)])) := Rr410.out.below b11
  have B11 : Hid (Below w.heap.size w w11) := B10.out.trans (b11.mono B10.out.size)
  clear Ra10 Rb10 Rr410 B10
  clear b11
  clear Rr411
  have C12 : Hid (Calls Try.prog 18 #[.slice aoa a.length capa, .int .i64 m] w11 (Gives w11 (mnL a [(m, m)]))) := by
    show Calls _ _ _ _ _
    have := remove_g _ a m w11 Ra11.out (by omega)
    exact this
  go_wp2_with fail
  refine Calls.mono C12.out ?_
  rintro e w12 ⟨aor5, nr5, cr5, rfl, rr5, b12⟩
  obtain ⟨_, _, kr5, _⟩ := id rr5
  cases kr5
  clear C12
  have Ra12 : Hid (Row encP 2 w12 _ a) := Ra11.out.below b12
  have Rb12 : Hid (Row encP 2 w12 _ b) := Rb11.out.below b12
  have B12 : Hid (Below w.heap.size w w12) := B11.out.trans (b12.mono B11.out.size)
  clear Ra11 Rb11 B11
  clear b12
  have Rr512 : Hid (Row encP 2 w12 _ (mnL a [(m, m)])) := rr5
  clear rr5
  have C13 : Hid (Calls Try.prog 20 #[.slice aor5 (mnL a [(m, m)]).length cr5, .int .i64 n] w12 fun e w' => e = .returned (.bool true) ∧ Below w12.heap.size w12 w') := has_is _ (mnL a [(m, m)]) n true w12 Rr512.out (by have := len_one m; have := mnL_length a [(m, m)]; omega) E5.out
  go_wp2_with fail
  refine Calls.mono C13.out ?_
  rintro e w13 ⟨rfl, b13⟩
  clear C13
  have Ra13 : Hid (Row encP 2 w13 _ a) := Ra12.out.below b13
  have Rb13 : Hid (Row encP 2 w13 _ b) := Rb12.out.below b13
  have Rr513 : Hid (Row encP 2 w13 _ (mnL a [(m, m)])) := Rr512.out.below b13
  have B13 : Hid (Below w.heap.size w w13) := B12.out.trans (b13.mono B12.out.size)
  clear Ra12 Rb12 Rr512 B12
  clear b13
  clear Rr513
  have C14 : Hid (Calls Try.prog 13 #[.slice aoa a.length capa, .slice aob b.length capb] w13 (Gives w13 (unL a b))) := by
    show Calls _ _ _ _ _
    have := union_g _ _ a b w13 Ra13.out Rb13.out (by omega)
    exact this
  go_wp2_with fail
  refine Calls.mono C14.out ?_
  rintro e w14 ⟨aor6, nr6, cr6, rfl, rr6, b14⟩
  obtain ⟨_, _, kr6, _⟩ := id rr6
  cases kr6
  clear C14
  have Ra14 : Hid (Row encP 2 w14 _ a) := Ra13.out.below b14
  have Rb14 : Hid (Row encP 2 w14 _ b) := Rb13.out.below b14
  have B14 : Hid (Below w.heap.size w w14) := B13.out.trans (b14.mono B13.out.size)
  clear Ra13 Rb13 B13
  clear b14
  have Rr614 : Hid (Row encP 2 w14 _ (unL a b)) := rr6
  clear rr6
  have C15 : Hid (Calls Try.prog 22 #[.slice aor6 (unL a b).length cr6] w14 fun e w' => e = .returned (.int .i64 cu) ∧ Below w14.heap.size w14 w') := by show Calls _ _ _ _ _; have := count_cn _ _ w14 Rr614.out (unL_cn a b) (by have := unL_length a b; omega); rw [Hcu.out] at this; exact this
  go_wp2_with fail
  refine Calls.mono C15.out ?_
  rintro e w15 ⟨rfl, b15⟩
  clear C15
  have Ra15 : Hid (Row encP 2 w15 _ a) := Ra14.out.below b15
  have Rb15 : Hid (Row encP 2 w15 _ b) := Rb14.out.below b15
  have Rr615 : Hid (Row encP 2 w15 _ (unL a b)) := Rr614.out.below b15
  have B15 : Hid (Below w.heap.size w w15) := B14.out.trans (b15.mono B14.out.size)
  clear Ra14 Rb14 Rr614 B14
  clear b15
  clear Rr615
  have C16 : Hid (Calls Try.prog 16 #[.slice aoa a.length capa, .slice aob b.length capb] w15 (Gives w15 (meL a b))) := by
    show Calls _ _ _ _ _
    have := meet_g _ _ a b w15 Ra15.out Rb15.out (by omega)
    exact this
  go_wp2_with fail
  refine Calls.mono C16.out ?_
  rintro e w16 ⟨aor7, nr7, cr7, rfl, rr7, b16⟩
  obtain ⟨_, _, kr7, _⟩ := id rr7
  cases kr7
  clear C16
  have Ra16 : Hid (Row encP 2 w16 _ a) := Ra15.out.below b16
  have Rb16 : Hid (Row encP 2 w16 _ b) := Rb15.out.below b16
  have B16 : Hid (Below w.heap.size w w16) := B15.out.trans (b16.mono B15.out.size)
  clear Ra15 Rb15 B15
  clear b16
  have Rr716 : Hid (Row encP 2 w16 _ (meL a b)) := rr7
  clear rr7
  have C17 : Hid (Calls Try.prog 22 #[.slice aor7 (meL a b).length cr7] w16 fun e w' => e = .returned (.int .i64 cm) ∧ Below w16.heap.size w16 w') := by show Calls _ _ _ _ _; have := count_cn _ _ w16 Rr716.out (meL_cn a b) (by have := meL_length a b; omega); rw [Hcm.out] at this; exact this
  go_wp2_with fail
  refine Calls.mono C17.out ?_
  rintro e w17 ⟨rfl, b17⟩
  clear C17
  have Ra17 : Hid (Row encP 2 w17 _ a) := Ra16.out.below b17
  have Rb17 : Hid (Row encP 2 w17 _ b) := Rb16.out.below b17
  have Rr717 : Hid (Row encP 2 w17 _ (meL a b)) := Rr716.out.below b17
  have B17 : Hid (Below w.heap.size w w17) := B16.out.trans (b17.mono B16.out.size)
  clear Ra16 Rb16 Rr716 B16
  clear b17
  clear Rr717
  have C18 : Hid (Calls Try.prog 22 #[.slice aoa a.length capa] w17 fun e w' => e = .returned (.int .i64 ca) ∧ Below w17.heap.size w17 w') := by show Calls _ _ _ _ _; have := count_any _ _ w17 Ra17.out (by omega); rw [Hca.out] at this; exact this
  go_wp2_with fail
  refine Calls.mono C18.out ?_
  rintro e w18 ⟨rfl, b18⟩
  clear C18
  have Ra18 : Hid (Row encP 2 w18 _ a) := Ra17.out.below b18
  have Rb18 : Hid (Row encP 2 w18 _ b) := Rb17.out.below b18
  have B18 : Hid (Below w.heap.size w w18) := B17.out.trans (b18.mono B17.out.size)
  clear Ra17 Rb17 B17
  clear b18
  have C19 : Hid (Calls Try.prog 22 #[.slice aob b.length capb] w18 fun e w' => e = .returned (.int .i64 cb) ∧ Below w18.heap.size w18 w') := by show Calls _ _ _ _ _; have := count_any _ _ w18 Rb18.out (by omega); rw [Hcb.out] at this; exact this
  go_wp2_with fail
  refine Calls.mono C19.out ?_
  rintro e w19 ⟨rfl, b19⟩
  clear C19
  have Ra19 : Hid (Row encP 2 w19 _ a) := Ra18.out.below b19
  have Rb19 : Hid (Row encP 2 w19 _ b) := Rb18.out.below b19
  have B19 : Hid (Below w.heap.size w w19) := B18.out.trans (b19.mono B18.out.size)
  clear Ra18 Rb18 B18
  clear b19
  go_wp2
  go_ret
  exact ⟨rfl, B19.out⟩

set_option maxRecDepth 100000 in
set_option maxHeartbeats 4000000 in
theorem logic.c2 (va : Value) (a : List Pr) (vb : Value) (b : List Pr) (n : Int) (m : Int) (w : World) (ha : Row encP 2 w va a) (hb : Row encP 2 w vb b) (la : a.length ≤ 40) (lb : b.length ≤ 40) (hx : hasB a n = true) (hy : hasB b n = false) (t0 : 0 ≤ n) (t1 : n ≤ 4294967295) (he : n = m) : Calls Try.prog 5 #[va, vb, .int .i64 n, .int .i64 m] w fun e w' => e = .returned (.bool true) ∧ Below w.heap.size w w' := by
  have HX : Hid (hasB a n = true) := hx
  have HY : Hid (hasB b n = false) := hy
  have E1 : Hid (hasB (unL a b) n = true) := by show _ = _; rw [has_un, hx, hy]; rfl
  have E2 : Hid (hasB (mnL a b) n = true) := by show _ = _; rw [has_mn, hx, hy]; rfl
  have E3 : Hid (hasB (meL a b) n = false) := by show _ = _; rw [has_me, hx, hy]; rfl
  have E4 : Hid (hasB (unL a [(m, m)]) n = true) := by show _ = _; rw [has_un, hx, has_one]; rfl
  have E5 : Hid (hasB (mnL a [(m, m)]) n = false) := by show _ = _; rw [has_mn, hx, has_one]; simp only [Bool.true_and]; rw [decide_eq_true (by omega)]; rfl
  have CE : Hid (cntL (unL a b) + cntL (meL a b) = cntL (nmL a) + cntL (nmL b)) := cnt_un_me a b
  have cb1 := cnt_le (unL_cn a b)
  have cb2 := cnt_le (meL_cn a b)
  have cb3 := cnt_le (nmL_cn a)
  have cb4 := cnt_le (nmL_cn b)
  obtain ⟨cu, hcu⟩ : ∃ k, cntL (unL a b) = k := ⟨_, rfl⟩
  obtain ⟨cm, hcm⟩ : ∃ k, cntL (meL a b) = k := ⟨_, rfl⟩
  obtain ⟨ca, hca⟩ : ∃ k, cntL (nmL a) = k := ⟨_, rfl⟩
  obtain ⟨cb, hcb⟩ : ∃ k, cntL (nmL b) = k := ⟨_, rfl⟩
  rw [hcu] at cb1
  rw [hcm] at cb2
  rw [hca] at cb3
  rw [hcb] at cb4
  rw [hcu, hcm, hca, hcb] at CE
  have Hcu : Hid _ := hcu
  have Hcm : Hid _ := hcm
  have Hca : Hid _ := hca
  have Hcb : Hid _ := hcb
  clear hcu hcm hca hcb
  have w1e : wrap64 (cu + cm) = cu + cm := w64 (by omega) (by omega)
  have w2e : wrap64 (ca + cb) = ca + cb := w64 (by omega) (by omega)
  have ceq : (cu + cm == ca + cb) = true := beq_iff_eq.2 CE.out
  have ne1 : (n == m) = true := beq_iff_eq.2 he
  have ne2 : (n != m) = false := by unfold bne; rw [ne1]; rfl
  clear hx hy he CE
  have Ra0 : Hid (Row encP 2 w va a) := ha
  obtain ⟨aoa, capa, rfl, _⟩ := id ha
  have Rb0 : Hid (Row encP 2 w vb b) := hb
  obtain ⟨aob, capb, rfl, _⟩ := id hb
  clear ha hb
  have B0 : Hid (Below w.heap.size w w) := Below.refl _ _
  have ia : ¬ (40 : Int) < (a.length : Int) := by omega
  have ib : ¬ (40 : Int) < (b.length : Int) := by omega
  go_enter Try.func5, Try.ntmps5
  have C1 : Hid (Calls Try.prog 9 #[] w fun e w' => e = .returned (.bool true) ∧ Below w.heap.size w w') := works_any w
  go_wp2_with fail
  refine Calls.mono C1.out ?_
  rintro e w1 ⟨rfl, b1⟩
  clear C1
  have Ra1 : Hid (Row encP 2 w1 _ a) := Ra0.out.below b1
  have Rb1 : Hid (Row encP 2 w1 _ b) := Rb0.out.below b1
  have B1 : Hid (Below w.heap.size w w1) := B0.out.trans (b1.mono B0.out.size)
  clear Ra0 Rb0 B0
  clear b1
  have C2 : Hid (Calls Try.prog 20 #[.slice aoa a.length capa, .int .i64 n] w1 fun e w' => e = .returned (.bool true) ∧ Below w1.heap.size w1 w') := has_is _ a n true w1 Ra1.out (by omega) HX.out
  go_wp2_with fail
  refine Calls.mono C2.out ?_
  rintro e w2 ⟨rfl, b2⟩
  clear C2
  have Ra2 : Hid (Row encP 2 w2 _ a) := Ra1.out.below b2
  have Rb2 : Hid (Row encP 2 w2 _ b) := Rb1.out.below b2
  have B2 : Hid (Below w.heap.size w w2) := B1.out.trans (b2.mono B1.out.size)
  clear Ra1 Rb1 B1
  clear b2
  have C3 : Hid (Calls Try.prog 20 #[.slice aob b.length capb, .int .i64 n] w2 fun e w' => e = .returned (.bool false) ∧ Below w2.heap.size w2 w') := has_is _ b n false w2 Rb2.out (by omega) HY.out
  go_wp2_with fail
  refine Calls.mono C3.out ?_
  rintro e w3 ⟨rfl, b3⟩
  clear C3
  have Ra3 : Hid (Row encP 2 w3 _ a) := Ra2.out.below b3
  have Rb3 : Hid (Row encP 2 w3 _ b) := Rb2.out.below b3
  have B3 : Hid (Below w.heap.size w w3) := B2.out.trans (b3.mono B2.out.size)
  clear Ra2 Rb2 B2
  clear b3
  have C4 : Hid (Calls Try.prog 13 #[.slice aoa a.length capa, .slice aob b.length capb] w3 (Gives w3 (unL a b))) := by
    show Calls _ _ _ _ _
    have := union_g _ _ a b w3 Ra3.out Rb3.out (by omega)
    exact this
  go_wp2_with fail
  refine Calls.mono C4.out ?_
  rintro e w4 ⟨aor1, nr1, cr1, rfl, rr1, b4⟩
  obtain ⟨_, _, kr1, _⟩ := id rr1
  cases kr1
  clear C4
  have Ra4 : Hid (Row encP 2 w4 _ a) := Ra3.out.below b4
  have Rb4 : Hid (Row encP 2 w4 _ b) := Rb3.out.below b4
  have B4 : Hid (Below w.heap.size w w4) := B3.out.trans (b4.mono B3.out.size)
  clear Ra3 Rb3 B3
  clear b4
  have Rr14 : Hid (Row encP 2 w4 _ (unL a b)) := rr1
  clear rr1
  have C5 : Hid (Calls Try.prog 20 #[.slice aor1 (unL a b).length cr1, .int .i64 n] w4 fun e w' => e = .returned (.bool true) ∧ Below w4.heap.size w4 w') := has_is _ (unL a b) n true w4 Rr14.out (by have := unL_length a b; omega) E1.out
  go_wp2_with fail
  refine Calls.mono C5.out ?_
  rintro e w5 ⟨rfl, b5⟩
  clear C5
  have Ra5 : Hid (Row encP 2 w5 _ a) := Ra4.out.below b5
  have Rb5 : Hid (Row encP 2 w5 _ b) := Rb4.out.below b5
  have Rr15 : Hid (Row encP 2 w5 _ (unL a b)) := Rr14.out.below b5
  have B5 : Hid (Below w.heap.size w w5) := B4.out.trans (b5.mono B4.out.size)
  clear Ra4 Rb4 Rr14 B4
  clear b5
  clear Rr15
  have C6 : Hid (Calls Try.prog 15 #[.slice aoa a.length capa, .slice aob b.length capb] w5 (Gives w5 (mnL a b))) := by
    show Calls _ _ _ _ _
    have := minus_g _ _ a b w5 Ra5.out Rb5.out (by omega)
    exact this
  go_wp2_with fail
  refine Calls.mono C6.out ?_
  rintro e w6 ⟨aor2, nr2, cr2, rfl, rr2, b6⟩
  obtain ⟨_, _, kr2, _⟩ := id rr2
  cases kr2
  clear C6
  have Ra6 : Hid (Row encP 2 w6 _ a) := Ra5.out.below b6
  have Rb6 : Hid (Row encP 2 w6 _ b) := Rb5.out.below b6
  have B6 : Hid (Below w.heap.size w w6) := B5.out.trans (b6.mono B5.out.size)
  clear Ra5 Rb5 B5
  clear b6
  have Rr26 : Hid (Row encP 2 w6 _ (mnL a b)) := rr2
  clear rr2
  have C7 : Hid (Calls Try.prog 20 #[.slice aor2 (mnL a b).length cr2, .int .i64 n] w6 fun e w' => e = .returned (.bool true) ∧ Below w6.heap.size w6 w') := has_is _ (mnL a b) n true w6 Rr26.out (by have := mnL_length a b; omega) E2.out
  go_wp2_with fail
  refine Calls.mono C7.out ?_
  rintro e w7 ⟨rfl, b7⟩
  clear C7
  have Ra7 : Hid (Row encP 2 w7 _ a) := Ra6.out.below b7
  have Rb7 : Hid (Row encP 2 w7 _ b) := Rb6.out.below b7
  have Rr27 : Hid (Row encP 2 w7 _ (mnL a b)) := Rr26.out.below b7
  have B7 : Hid (Below w.heap.size w w7) := B6.out.trans (b7.mono B6.out.size)
  clear Ra6 Rb6 Rr26 B6
  clear b7
  clear Rr27
  have C8 : Hid (Calls Try.prog 16 #[.slice aoa a.length capa, .slice aob b.length capb] w7 (Gives w7 (meL a b))) := by
    show Calls _ _ _ _ _
    have := meet_g _ _ a b w7 Ra7.out Rb7.out (by omega)
    exact this
  go_wp2_with fail
  refine Calls.mono C8.out ?_
  rintro e w8 ⟨aor3, nr3, cr3, rfl, rr3, b8⟩
  obtain ⟨_, _, kr3, _⟩ := id rr3
  cases kr3
  clear C8
  have Ra8 : Hid (Row encP 2 w8 _ a) := Ra7.out.below b8
  have Rb8 : Hid (Row encP 2 w8 _ b) := Rb7.out.below b8
  have B8 : Hid (Below w.heap.size w w8) := B7.out.trans (b8.mono B7.out.size)
  clear Ra7 Rb7 B7
  clear b8
  have Rr38 : Hid (Row encP 2 w8 _ (meL a b)) := rr3
  clear rr3
  have C9 : Hid (Calls Try.prog 20 #[.slice aor3 (meL a b).length cr3, .int .i64 n] w8 fun e w' => e = .returned (.bool false) ∧ Below w8.heap.size w8 w') := has_is _ (meL a b) n false w8 Rr38.out (by have := meL_length a b; omega) E3.out
  go_wp2_with fail
  refine Calls.mono C9.out ?_
  rintro e w9 ⟨rfl, b9⟩
  clear C9
  have Ra9 : Hid (Row encP 2 w9 _ a) := Ra8.out.below b9
  have Rb9 : Hid (Row encP 2 w9 _ b) := Rb8.out.below b9
  have Rr39 : Hid (Row encP 2 w9 _ (meL a b)) := Rr38.out.below b9
  have B9 : Hid (Below w.heap.size w w9) := B8.out.trans (b9.mono B8.out.size)
  clear Ra8 Rb8 Rr38 B8
  clear b9
  clear Rr39
  have C10 : Hid (Calls Try.prog 17 #[.slice aoa a.length capa, .int .i64 m] w9 (Gives w9 (unL a [(m, m)]))) := by
    show Calls _ _ _ _ _
    have := add_g _ a m w9 Ra9.out (by omega)
    exact this
  go_wp2_with fail
  refine Calls.mono C10.out ?_
  rintro e w10 ⟨aor4, nr4, cr4, rfl, rr4, b10⟩
  obtain ⟨_, _, kr4, _⟩ := id rr4
  cases kr4
  clear C10
  have Ra10 : Hid (Row encP 2 w10 _ a) := Ra9.out.below b10
  have Rb10 : Hid (Row encP 2 w10 _ b) := Rb9.out.below b10
  have B10 : Hid (Below w.heap.size w w10) := B9.out.trans (b10.mono B9.out.size)
  clear Ra9 Rb9 B9
  clear b10
  have Rr410 : Hid (Row encP 2 w10 _ (unL a [(m, m)])) := rr4
  clear rr4
  have C11 : Hid (Calls Try.prog 20 #[.slice aor4 (unL a [(m, m)]).length cr4, .int .i64 n] w10 fun e w' => e = .returned (.bool true) ∧ Below w10.heap.size w10 w') := has_is _ (unL a [(m, m)]) n true w10 Rr410.out (by have := len_one m; have := unL_length a [(m, m)]; omega) E4.out
  go_wp2_with fail
  refine Calls.mono C11.out ?_
  rintro e w11 ⟨rfl, b11⟩
  clear C11
  have Ra11 : Hid (Row encP 2 w11 _ a) := Ra10.out.below b11
  have Rb11 : Hid (Row encP 2 w11 _ b) := Rb10.out.below b11
  have Rr411 : Hid (Row encP 2 w11 _ (unL a [(m, m)])) := Rr410.out.below b11
  have B11 : Hid (Below w.heap.size w w11) := B10.out.trans (b11.mono B10.out.size)
  clear Ra10 Rb10 Rr410 B10
  clear b11
  clear Rr411
  have C12 : Hid (Calls Try.prog 18 #[.slice aoa a.length capa, .int .i64 m] w11 (Gives w11 (mnL a [(m, m)]))) := by
    show Calls _ _ _ _ _
    have := remove_g _ a m w11 Ra11.out (by omega)
    exact this
  go_wp2_with fail
  refine Calls.mono C12.out ?_
  rintro e w12 ⟨aor5, nr5, cr5, rfl, rr5, b12⟩
  obtain ⟨_, _, kr5, _⟩ := id rr5
  cases kr5
  clear C12
  have Ra12 : Hid (Row encP 2 w12 _ a) := Ra11.out.below b12
  have Rb12 : Hid (Row encP 2 w12 _ b) := Rb11.out.below b12
  have B12 : Hid (Below w.heap.size w w12) := B11.out.trans (b12.mono B11.out.size)
  clear Ra11 Rb11 B11
  clear b12
  have Rr512 : Hid (Row encP 2 w12 _ (mnL a [(m, m)])) := rr5
  clear rr5
  have C13 : Hid (Calls Try.prog 20 #[.slice aor5 (mnL a [(m, m)]).length cr5, .int .i64 n] w12 fun e w' => e = .returned (.bool false) ∧ Below w12.heap.size w12 w') := has_is _ (mnL a [(m, m)]) n false w12 Rr512.out (by have := len_one m; have := mnL_length a [(m, m)]; omega) E5.out
  go_wp2_with fail
  refine Calls.mono C13.out ?_
  rintro e w13 ⟨rfl, b13⟩
  clear C13
  have Ra13 : Hid (Row encP 2 w13 _ a) := Ra12.out.below b13
  have Rb13 : Hid (Row encP 2 w13 _ b) := Rb12.out.below b13
  have Rr513 : Hid (Row encP 2 w13 _ (mnL a [(m, m)])) := Rr512.out.below b13
  have B13 : Hid (Below w.heap.size w w13) := B12.out.trans (b13.mono B12.out.size)
  clear Ra12 Rb12 Rr512 B12
  clear b13
  clear Rr513
  have C14 : Hid (Calls Try.prog 13 #[.slice aoa a.length capa, .slice aob b.length capb] w13 (Gives w13 (unL a b))) := by
    show Calls _ _ _ _ _
    have := union_g _ _ a b w13 Ra13.out Rb13.out (by omega)
    exact this
  go_wp2_with fail
  refine Calls.mono C14.out ?_
  rintro e w14 ⟨aor6, nr6, cr6, rfl, rr6, b14⟩
  obtain ⟨_, _, kr6, _⟩ := id rr6
  cases kr6
  clear C14
  have Ra14 : Hid (Row encP 2 w14 _ a) := Ra13.out.below b14
  have Rb14 : Hid (Row encP 2 w14 _ b) := Rb13.out.below b14
  have B14 : Hid (Below w.heap.size w w14) := B13.out.trans (b14.mono B13.out.size)
  clear Ra13 Rb13 B13
  clear b14
  have Rr614 : Hid (Row encP 2 w14 _ (unL a b)) := rr6
  clear rr6
  have C15 : Hid (Calls Try.prog 22 #[.slice aor6 (unL a b).length cr6] w14 fun e w' => e = .returned (.int .i64 cu) ∧ Below w14.heap.size w14 w') := by show Calls _ _ _ _ _; have := count_cn _ _ w14 Rr614.out (unL_cn a b) (by have := unL_length a b; omega); rw [Hcu.out] at this; exact this
  go_wp2_with fail
  refine Calls.mono C15.out ?_
  rintro e w15 ⟨rfl, b15⟩
  clear C15
  have Ra15 : Hid (Row encP 2 w15 _ a) := Ra14.out.below b15
  have Rb15 : Hid (Row encP 2 w15 _ b) := Rb14.out.below b15
  have Rr615 : Hid (Row encP 2 w15 _ (unL a b)) := Rr614.out.below b15
  have B15 : Hid (Below w.heap.size w w15) := B14.out.trans (b15.mono B14.out.size)
  clear Ra14 Rb14 Rr614 B14
  clear b15
  clear Rr615
  have C16 : Hid (Calls Try.prog 16 #[.slice aoa a.length capa, .slice aob b.length capb] w15 (Gives w15 (meL a b))) := by
    show Calls _ _ _ _ _
    have := meet_g _ _ a b w15 Ra15.out Rb15.out (by omega)
    exact this
  go_wp2_with fail
  refine Calls.mono C16.out ?_
  rintro e w16 ⟨aor7, nr7, cr7, rfl, rr7, b16⟩
  obtain ⟨_, _, kr7, _⟩ := id rr7
  cases kr7
  clear C16
  have Ra16 : Hid (Row encP 2 w16 _ a) := Ra15.out.below b16
  have Rb16 : Hid (Row encP 2 w16 _ b) := Rb15.out.below b16
  have B16 : Hid (Below w.heap.size w w16) := B15.out.trans (b16.mono B15.out.size)
  clear Ra15 Rb15 B15
  clear b16
  have Rr716 : Hid (Row encP 2 w16 _ (meL a b)) := rr7
  clear rr7
  have C17 : Hid (Calls Try.prog 22 #[.slice aor7 (meL a b).length cr7] w16 fun e w' => e = .returned (.int .i64 cm) ∧ Below w16.heap.size w16 w') := by show Calls _ _ _ _ _; have := count_cn _ _ w16 Rr716.out (meL_cn a b) (by have := meL_length a b; omega); rw [Hcm.out] at this; exact this
  go_wp2_with fail
  refine Calls.mono C17.out ?_
  rintro e w17 ⟨rfl, b17⟩
  clear C17
  have Ra17 : Hid (Row encP 2 w17 _ a) := Ra16.out.below b17
  have Rb17 : Hid (Row encP 2 w17 _ b) := Rb16.out.below b17
  have Rr717 : Hid (Row encP 2 w17 _ (meL a b)) := Rr716.out.below b17
  have B17 : Hid (Below w.heap.size w w17) := B16.out.trans (b17.mono B16.out.size)
  clear Ra16 Rb16 Rr716 B16
  clear b17
  clear Rr717
  have C18 : Hid (Calls Try.prog 22 #[.slice aoa a.length capa] w17 fun e w' => e = .returned (.int .i64 ca) ∧ Below w17.heap.size w17 w') := by show Calls _ _ _ _ _; have := count_any _ _ w17 Ra17.out (by omega); rw [Hca.out] at this; exact this
  go_wp2_with fail
  refine Calls.mono C18.out ?_
  rintro e w18 ⟨rfl, b18⟩
  clear C18
  have Ra18 : Hid (Row encP 2 w18 _ a) := Ra17.out.below b18
  have Rb18 : Hid (Row encP 2 w18 _ b) := Rb17.out.below b18
  have B18 : Hid (Below w.heap.size w w18) := B17.out.trans (b18.mono B17.out.size)
  clear Ra17 Rb17 B17
  clear b18
  have C19 : Hid (Calls Try.prog 22 #[.slice aob b.length capb] w18 fun e w' => e = .returned (.int .i64 cb) ∧ Below w18.heap.size w18 w') := by show Calls _ _ _ _ _; have := count_any _ _ w18 Rb18.out (by omega); rw [Hcb.out] at this; exact this
  go_wp2_with fail
  refine Calls.mono C19.out ?_
  rintro e w19 ⟨rfl, b19⟩
  clear C19
  have Ra19 : Hid (Row encP 2 w19 _ a) := Ra18.out.below b19
  have Rb19 : Hid (Row encP 2 w19 _ b) := Rb18.out.below b19
  have B19 : Hid (Below w.heap.size w w19) := B18.out.trans (b19.mono B18.out.size)
  clear Ra18 Rb18 B18
  clear b19
  go_wp2
  go_ret
  exact ⟨rfl, B19.out⟩

set_option maxRecDepth 100000 in
set_option maxHeartbeats 4000000 in
theorem logic.c3 (va : Value) (a : List Pr) (vb : Value) (b : List Pr) (n : Int) (m : Int) (w : World) (ha : Row encP 2 w va a) (hb : Row encP 2 w vb b) (la : a.length ≤ 40) (lb : b.length ≤ 40) (hx : hasB a n = true) (hy : hasB b n = false) (t0 : 0 ≤ n) (t1 : n ≤ 4294967295) (he : n ≠ m) : Calls Try.prog 5 #[va, vb, .int .i64 n, .int .i64 m] w fun e w' => e = .returned (.bool true) ∧ Below w.heap.size w w' := by
  have HX : Hid (hasB a n = true) := hx
  have HY : Hid (hasB b n = false) := hy
  have E1 : Hid (hasB (unL a b) n = true) := by show _ = _; rw [has_un, hx, hy]; rfl
  have E2 : Hid (hasB (mnL a b) n = true) := by show _ = _; rw [has_mn, hx, hy]; rfl
  have E3 : Hid (hasB (meL a b) n = false) := by show _ = _; rw [has_me, hx, hy]; rfl
  have E4 : Hid (hasB (unL a [(m, m)]) n = true) := by show _ = _; rw [has_un, hx, has_one]; rfl
  have E5 : Hid (hasB (mnL a [(m, m)]) n = true) := by show _ = _; rw [has_mn, hx, has_one]; simp only [Bool.true_and]; rw [decide_eq_false (by omega)]; rfl
  have CE : Hid (cntL (unL a b) + cntL (meL a b) = cntL (nmL a) + cntL (nmL b)) := cnt_un_me a b
  have cb1 := cnt_le (unL_cn a b)
  have cb2 := cnt_le (meL_cn a b)
  have cb3 := cnt_le (nmL_cn a)
  have cb4 := cnt_le (nmL_cn b)
  obtain ⟨cu, hcu⟩ : ∃ k, cntL (unL a b) = k := ⟨_, rfl⟩
  obtain ⟨cm, hcm⟩ : ∃ k, cntL (meL a b) = k := ⟨_, rfl⟩
  obtain ⟨ca, hca⟩ : ∃ k, cntL (nmL a) = k := ⟨_, rfl⟩
  obtain ⟨cb, hcb⟩ : ∃ k, cntL (nmL b) = k := ⟨_, rfl⟩
  rw [hcu] at cb1
  rw [hcm] at cb2
  rw [hca] at cb3
  rw [hcb] at cb4
  rw [hcu, hcm, hca, hcb] at CE
  have Hcu : Hid _ := hcu
  have Hcm : Hid _ := hcm
  have Hca : Hid _ := hca
  have Hcb : Hid _ := hcb
  clear hcu hcm hca hcb
  have w1e : wrap64 (cu + cm) = cu + cm := w64 (by omega) (by omega)
  have w2e : wrap64 (ca + cb) = ca + cb := w64 (by omega) (by omega)
  have ceq : (cu + cm == ca + cb) = true := beq_iff_eq.2 CE.out
  have ne1 : (n == m) = false := beq_eq_false_iff_ne.2 he
  have ne2 : (n != m) = true := by unfold bne; rw [ne1]; rfl
  clear hx hy he CE
  have Ra0 : Hid (Row encP 2 w va a) := ha
  obtain ⟨aoa, capa, rfl, _⟩ := id ha
  have Rb0 : Hid (Row encP 2 w vb b) := hb
  obtain ⟨aob, capb, rfl, _⟩ := id hb
  clear ha hb
  have B0 : Hid (Below w.heap.size w w) := Below.refl _ _
  have ia : ¬ (40 : Int) < (a.length : Int) := by omega
  have ib : ¬ (40 : Int) < (b.length : Int) := by omega
  go_enter Try.func5, Try.ntmps5
  have C1 : Hid (Calls Try.prog 9 #[] w fun e w' => e = .returned (.bool true) ∧ Below w.heap.size w w') := works_any w
  go_wp2_with fail
  refine Calls.mono C1.out ?_
  rintro e w1 ⟨rfl, b1⟩
  clear C1
  have Ra1 : Hid (Row encP 2 w1 _ a) := Ra0.out.below b1
  have Rb1 : Hid (Row encP 2 w1 _ b) := Rb0.out.below b1
  have B1 : Hid (Below w.heap.size w w1) := B0.out.trans (b1.mono B0.out.size)
  clear Ra0 Rb0 B0
  clear b1
  have C2 : Hid (Calls Try.prog 20 #[.slice aoa a.length capa, .int .i64 n] w1 fun e w' => e = .returned (.bool true) ∧ Below w1.heap.size w1 w') := has_is _ a n true w1 Ra1.out (by omega) HX.out
  go_wp2_with fail
  refine Calls.mono C2.out ?_
  rintro e w2 ⟨rfl, b2⟩
  clear C2
  have Ra2 : Hid (Row encP 2 w2 _ a) := Ra1.out.below b2
  have Rb2 : Hid (Row encP 2 w2 _ b) := Rb1.out.below b2
  have B2 : Hid (Below w.heap.size w w2) := B1.out.trans (b2.mono B1.out.size)
  clear Ra1 Rb1 B1
  clear b2
  have C3 : Hid (Calls Try.prog 20 #[.slice aob b.length capb, .int .i64 n] w2 fun e w' => e = .returned (.bool false) ∧ Below w2.heap.size w2 w') := has_is _ b n false w2 Rb2.out (by omega) HY.out
  go_wp2_with fail
  refine Calls.mono C3.out ?_
  rintro e w3 ⟨rfl, b3⟩
  clear C3
  have Ra3 : Hid (Row encP 2 w3 _ a) := Ra2.out.below b3
  have Rb3 : Hid (Row encP 2 w3 _ b) := Rb2.out.below b3
  have B3 : Hid (Below w.heap.size w w3) := B2.out.trans (b3.mono B2.out.size)
  clear Ra2 Rb2 B2
  clear b3
  have C4 : Hid (Calls Try.prog 13 #[.slice aoa a.length capa, .slice aob b.length capb] w3 (Gives w3 (unL a b))) := by
    show Calls _ _ _ _ _
    have := union_g _ _ a b w3 Ra3.out Rb3.out (by omega)
    exact this
  go_wp2_with fail
  refine Calls.mono C4.out ?_
  rintro e w4 ⟨aor1, nr1, cr1, rfl, rr1, b4⟩
  obtain ⟨_, _, kr1, _⟩ := id rr1
  cases kr1
  clear C4
  have Ra4 : Hid (Row encP 2 w4 _ a) := Ra3.out.below b4
  have Rb4 : Hid (Row encP 2 w4 _ b) := Rb3.out.below b4
  have B4 : Hid (Below w.heap.size w w4) := B3.out.trans (b4.mono B3.out.size)
  clear Ra3 Rb3 B3
  clear b4
  have Rr14 : Hid (Row encP 2 w4 _ (unL a b)) := rr1
  clear rr1
  have C5 : Hid (Calls Try.prog 20 #[.slice aor1 (unL a b).length cr1, .int .i64 n] w4 fun e w' => e = .returned (.bool true) ∧ Below w4.heap.size w4 w') := has_is _ (unL a b) n true w4 Rr14.out (by have := unL_length a b; omega) E1.out
  go_wp2_with fail
  refine Calls.mono C5.out ?_
  rintro e w5 ⟨rfl, b5⟩
  clear C5
  have Ra5 : Hid (Row encP 2 w5 _ a) := Ra4.out.below b5
  have Rb5 : Hid (Row encP 2 w5 _ b) := Rb4.out.below b5
  have Rr15 : Hid (Row encP 2 w5 _ (unL a b)) := Rr14.out.below b5
  have B5 : Hid (Below w.heap.size w w5) := B4.out.trans (b5.mono B4.out.size)
  clear Ra4 Rb4 Rr14 B4
  clear b5
  clear Rr15
  have C6 : Hid (Calls Try.prog 15 #[.slice aoa a.length capa, .slice aob b.length capb] w5 (Gives w5 (mnL a b))) := by
    show Calls _ _ _ _ _
    have := minus_g _ _ a b w5 Ra5.out Rb5.out (by omega)
    exact this
  go_wp2_with fail
  refine Calls.mono C6.out ?_
  rintro e w6 ⟨aor2, nr2, cr2, rfl, rr2, b6⟩
  obtain ⟨_, _, kr2, _⟩ := id rr2
  cases kr2
  clear C6
  have Ra6 : Hid (Row encP 2 w6 _ a) := Ra5.out.below b6
  have Rb6 : Hid (Row encP 2 w6 _ b) := Rb5.out.below b6
  have B6 : Hid (Below w.heap.size w w6) := B5.out.trans (b6.mono B5.out.size)
  clear Ra5 Rb5 B5
  clear b6
  have Rr26 : Hid (Row encP 2 w6 _ (mnL a b)) := rr2
  clear rr2
  have C7 : Hid (Calls Try.prog 20 #[.slice aor2 (mnL a b).length cr2, .int .i64 n] w6 fun e w' => e = .returned (.bool true) ∧ Below w6.heap.size w6 w') := has_is _ (mnL a b) n true w6 Rr26.out (by have := mnL_length a b; omega) E2.out
  go_wp2_with fail
  refine Calls.mono C7.out ?_
  rintro e w7 ⟨rfl, b7⟩
  clear C7
  have Ra7 : Hid (Row encP 2 w7 _ a) := Ra6.out.below b7
  have Rb7 : Hid (Row encP 2 w7 _ b) := Rb6.out.below b7
  have Rr27 : Hid (Row encP 2 w7 _ (mnL a b)) := Rr26.out.below b7
  have B7 : Hid (Below w.heap.size w w7) := B6.out.trans (b7.mono B6.out.size)
  clear Ra6 Rb6 Rr26 B6
  clear b7
  clear Rr27
  have C8 : Hid (Calls Try.prog 16 #[.slice aoa a.length capa, .slice aob b.length capb] w7 (Gives w7 (meL a b))) := by
    show Calls _ _ _ _ _
    have := meet_g _ _ a b w7 Ra7.out Rb7.out (by omega)
    exact this
  go_wp2_with fail
  refine Calls.mono C8.out ?_
  rintro e w8 ⟨aor3, nr3, cr3, rfl, rr3, b8⟩
  obtain ⟨_, _, kr3, _⟩ := id rr3
  cases kr3
  clear C8
  have Ra8 : Hid (Row encP 2 w8 _ a) := Ra7.out.below b8
  have Rb8 : Hid (Row encP 2 w8 _ b) := Rb7.out.below b8
  have B8 : Hid (Below w.heap.size w w8) := B7.out.trans (b8.mono B7.out.size)
  clear Ra7 Rb7 B7
  clear b8
  have Rr38 : Hid (Row encP 2 w8 _ (meL a b)) := rr3
  clear rr3
  have C9 : Hid (Calls Try.prog 20 #[.slice aor3 (meL a b).length cr3, .int .i64 n] w8 fun e w' => e = .returned (.bool false) ∧ Below w8.heap.size w8 w') := has_is _ (meL a b) n false w8 Rr38.out (by have := meL_length a b; omega) E3.out
  go_wp2_with fail
  refine Calls.mono C9.out ?_
  rintro e w9 ⟨rfl, b9⟩
  clear C9
  have Ra9 : Hid (Row encP 2 w9 _ a) := Ra8.out.below b9
  have Rb9 : Hid (Row encP 2 w9 _ b) := Rb8.out.below b9
  have Rr39 : Hid (Row encP 2 w9 _ (meL a b)) := Rr38.out.below b9
  have B9 : Hid (Below w.heap.size w w9) := B8.out.trans (b9.mono B8.out.size)
  clear Ra8 Rb8 Rr38 B8
  clear b9
  clear Rr39
  have C10 : Hid (Calls Try.prog 17 #[.slice aoa a.length capa, .int .i64 m] w9 (Gives w9 (unL a [(m, m)]))) := by
    show Calls _ _ _ _ _
    have := add_g _ a m w9 Ra9.out (by omega)
    exact this
  go_wp2_with fail
  refine Calls.mono C10.out ?_
  rintro e w10 ⟨aor4, nr4, cr4, rfl, rr4, b10⟩
  obtain ⟨_, _, kr4, _⟩ := id rr4
  cases kr4
  clear C10
  have Ra10 : Hid (Row encP 2 w10 _ a) := Ra9.out.below b10
  have Rb10 : Hid (Row encP 2 w10 _ b) := Rb9.out.below b10
  have B10 : Hid (Below w.heap.size w w10) := B9.out.trans (b10.mono B9.out.size)
  clear Ra9 Rb9 B9
  clear b10
  have Rr410 : Hid (Row encP 2 w10 _ (unL a [(m, m)])) := rr4
  clear rr4
  have C11 : Hid (Calls Try.prog 20 #[.slice aor4 (unL a [(m, m)]).length cr4, .int .i64 n] w10 fun e w' => e = .returned (.bool true) ∧ Below w10.heap.size w10 w') := has_is _ (unL a [(m, m)]) n true w10 Rr410.out (by have := len_one m; have := unL_length a [(m, m)]; omega) E4.out
  go_wp2_with fail
  refine Calls.mono C11.out ?_
  rintro e w11 ⟨rfl, b11⟩
  clear C11
  have Ra11 : Hid (Row encP 2 w11 _ a) := Ra10.out.below b11
  have Rb11 : Hid (Row encP 2 w11 _ b) := Rb10.out.below b11
  have Rr411 : Hid (Row encP 2 w11 _ (unL a [(m, m)])) := Rr410.out.below b11
  have B11 : Hid (Below w.heap.size w w11) := B10.out.trans (b11.mono B10.out.size)
  clear Ra10 Rb10 Rr410 B10
  clear b11
  clear Rr411
  have C12 : Hid (Calls Try.prog 18 #[.slice aoa a.length capa, .int .i64 m] w11 (Gives w11 (mnL a [(m, m)]))) := by
    show Calls _ _ _ _ _
    have := remove_g _ a m w11 Ra11.out (by omega)
    exact this
  go_wp2_with fail
  refine Calls.mono C12.out ?_
  rintro e w12 ⟨aor5, nr5, cr5, rfl, rr5, b12⟩
  obtain ⟨_, _, kr5, _⟩ := id rr5
  cases kr5
  clear C12
  have Ra12 : Hid (Row encP 2 w12 _ a) := Ra11.out.below b12
  have Rb12 : Hid (Row encP 2 w12 _ b) := Rb11.out.below b12
  have B12 : Hid (Below w.heap.size w w12) := B11.out.trans (b12.mono B11.out.size)
  clear Ra11 Rb11 B11
  clear b12
  have Rr512 : Hid (Row encP 2 w12 _ (mnL a [(m, m)])) := rr5
  clear rr5
  have C13 : Hid (Calls Try.prog 20 #[.slice aor5 (mnL a [(m, m)]).length cr5, .int .i64 n] w12 fun e w' => e = .returned (.bool true) ∧ Below w12.heap.size w12 w') := has_is _ (mnL a [(m, m)]) n true w12 Rr512.out (by have := len_one m; have := mnL_length a [(m, m)]; omega) E5.out
  go_wp2_with fail
  refine Calls.mono C13.out ?_
  rintro e w13 ⟨rfl, b13⟩
  clear C13
  have Ra13 : Hid (Row encP 2 w13 _ a) := Ra12.out.below b13
  have Rb13 : Hid (Row encP 2 w13 _ b) := Rb12.out.below b13
  have Rr513 : Hid (Row encP 2 w13 _ (mnL a [(m, m)])) := Rr512.out.below b13
  have B13 : Hid (Below w.heap.size w w13) := B12.out.trans (b13.mono B12.out.size)
  clear Ra12 Rb12 Rr512 B12
  clear b13
  clear Rr513
  have C14 : Hid (Calls Try.prog 13 #[.slice aoa a.length capa, .slice aob b.length capb] w13 (Gives w13 (unL a b))) := by
    show Calls _ _ _ _ _
    have := union_g _ _ a b w13 Ra13.out Rb13.out (by omega)
    exact this
  go_wp2_with fail
  refine Calls.mono C14.out ?_
  rintro e w14 ⟨aor6, nr6, cr6, rfl, rr6, b14⟩
  obtain ⟨_, _, kr6, _⟩ := id rr6
  cases kr6
  clear C14
  have Ra14 : Hid (Row encP 2 w14 _ a) := Ra13.out.below b14
  have Rb14 : Hid (Row encP 2 w14 _ b) := Rb13.out.below b14
  have B14 : Hid (Below w.heap.size w w14) := B13.out.trans (b14.mono B13.out.size)
  clear Ra13 Rb13 B13
  clear b14
  have Rr614 : Hid (Row encP 2 w14 _ (unL a b)) := rr6
  clear rr6
  have C15 : Hid (Calls Try.prog 22 #[.slice aor6 (unL a b).length cr6] w14 fun e w' => e = .returned (.int .i64 cu) ∧ Below w14.heap.size w14 w') := by show Calls _ _ _ _ _; have := count_cn _ _ w14 Rr614.out (unL_cn a b) (by have := unL_length a b; omega); rw [Hcu.out] at this; exact this
  go_wp2_with fail
  refine Calls.mono C15.out ?_
  rintro e w15 ⟨rfl, b15⟩
  clear C15
  have Ra15 : Hid (Row encP 2 w15 _ a) := Ra14.out.below b15
  have Rb15 : Hid (Row encP 2 w15 _ b) := Rb14.out.below b15
  have Rr615 : Hid (Row encP 2 w15 _ (unL a b)) := Rr614.out.below b15
  have B15 : Hid (Below w.heap.size w w15) := B14.out.trans (b15.mono B14.out.size)
  clear Ra14 Rb14 Rr614 B14
  clear b15
  clear Rr615
  have C16 : Hid (Calls Try.prog 16 #[.slice aoa a.length capa, .slice aob b.length capb] w15 (Gives w15 (meL a b))) := by
    show Calls _ _ _ _ _
    have := meet_g _ _ a b w15 Ra15.out Rb15.out (by omega)
    exact this
  go_wp2_with fail
  refine Calls.mono C16.out ?_
  rintro e w16 ⟨aor7, nr7, cr7, rfl, rr7, b16⟩
  obtain ⟨_, _, kr7, _⟩ := id rr7
  cases kr7
  clear C16
  have Ra16 : Hid (Row encP 2 w16 _ a) := Ra15.out.below b16
  have Rb16 : Hid (Row encP 2 w16 _ b) := Rb15.out.below b16
  have B16 : Hid (Below w.heap.size w w16) := B15.out.trans (b16.mono B15.out.size)
  clear Ra15 Rb15 B15
  clear b16
  have Rr716 : Hid (Row encP 2 w16 _ (meL a b)) := rr7
  clear rr7
  have C17 : Hid (Calls Try.prog 22 #[.slice aor7 (meL a b).length cr7] w16 fun e w' => e = .returned (.int .i64 cm) ∧ Below w16.heap.size w16 w') := by show Calls _ _ _ _ _; have := count_cn _ _ w16 Rr716.out (meL_cn a b) (by have := meL_length a b; omega); rw [Hcm.out] at this; exact this
  go_wp2_with fail
  refine Calls.mono C17.out ?_
  rintro e w17 ⟨rfl, b17⟩
  clear C17
  have Ra17 : Hid (Row encP 2 w17 _ a) := Ra16.out.below b17
  have Rb17 : Hid (Row encP 2 w17 _ b) := Rb16.out.below b17
  have Rr717 : Hid (Row encP 2 w17 _ (meL a b)) := Rr716.out.below b17
  have B17 : Hid (Below w.heap.size w w17) := B16.out.trans (b17.mono B16.out.size)
  clear Ra16 Rb16 Rr716 B16
  clear b17
  clear Rr717
  have C18 : Hid (Calls Try.prog 22 #[.slice aoa a.length capa] w17 fun e w' => e = .returned (.int .i64 ca) ∧ Below w17.heap.size w17 w') := by show Calls _ _ _ _ _; have := count_any _ _ w17 Ra17.out (by omega); rw [Hca.out] at this; exact this
  go_wp2_with fail
  refine Calls.mono C18.out ?_
  rintro e w18 ⟨rfl, b18⟩
  clear C18
  have Ra18 : Hid (Row encP 2 w18 _ a) := Ra17.out.below b18
  have Rb18 : Hid (Row encP 2 w18 _ b) := Rb17.out.below b18
  have B18 : Hid (Below w.heap.size w w18) := B17.out.trans (b18.mono B17.out.size)
  clear Ra17 Rb17 B17
  clear b18
  have C19 : Hid (Calls Try.prog 22 #[.slice aob b.length capb] w18 fun e w' => e = .returned (.int .i64 cb) ∧ Below w18.heap.size w18 w') := by show Calls _ _ _ _ _; have := count_any _ _ w18 Rb18.out (by omega); rw [Hcb.out] at this; exact this
  go_wp2_with fail
  refine Calls.mono C19.out ?_
  rintro e w19 ⟨rfl, b19⟩
  clear C19
  have Ra19 : Hid (Row encP 2 w19 _ a) := Ra18.out.below b19
  have Rb19 : Hid (Row encP 2 w19 _ b) := Rb18.out.below b19
  have B19 : Hid (Below w.heap.size w w19) := B18.out.trans (b19.mono B18.out.size)
  clear Ra18 Rb18 B18
  clear b19
  go_wp2
  go_ret
  exact ⟨rfl, B19.out⟩

set_option maxRecDepth 100000 in
set_option maxHeartbeats 4000000 in
theorem logic.c4 (va : Value) (a : List Pr) (vb : Value) (b : List Pr) (n : Int) (m : Int) (w : World) (ha : Row encP 2 w va a) (hb : Row encP 2 w vb b) (la : a.length ≤ 40) (lb : b.length ≤ 40) (hx : hasB a n = false) (hy : hasB b n = true) (t0 : 0 ≤ n) (t1 : n ≤ 4294967295) (he : n = m) : Calls Try.prog 5 #[va, vb, .int .i64 n, .int .i64 m] w fun e w' => e = .returned (.bool true) ∧ Below w.heap.size w w' := by
  have HX : Hid (hasB a n = false) := hx
  have HY : Hid (hasB b n = true) := hy
  have E1 : Hid (hasB (unL a b) n = true) := by show _ = _; rw [has_un, hx, hy]; rfl
  have E2 : Hid (hasB (mnL a b) n = false) := by show _ = _; rw [has_mn, hx, hy]; rfl
  have E3 : Hid (hasB (meL a b) n = false) := by show _ = _; rw [has_me, hx, hy]; rfl
  have E4 : Hid (hasB (unL a [(m, m)]) n = true) := by show _ = _; rw [has_un, hx, has_one]; simp only [Bool.false_or]; exact decide_eq_true (by omega)
  have E5 : Hid (hasB (mnL a [(m, m)]) n = false) := by show _ = _; rw [has_mn, hx, has_one]; rfl
  have CE : Hid (cntL (unL a b) + cntL (meL a b) = cntL (nmL a) + cntL (nmL b)) := cnt_un_me a b
  have cb1 := cnt_le (unL_cn a b)
  have cb2 := cnt_le (meL_cn a b)
  have cb3 := cnt_le (nmL_cn a)
  have cb4 := cnt_le (nmL_cn b)
  obtain ⟨cu, hcu⟩ : ∃ k, cntL (unL a b) = k := ⟨_, rfl⟩
  obtain ⟨cm, hcm⟩ : ∃ k, cntL (meL a b) = k := ⟨_, rfl⟩
  obtain ⟨ca, hca⟩ : ∃ k, cntL (nmL a) = k := ⟨_, rfl⟩
  obtain ⟨cb, hcb⟩ : ∃ k, cntL (nmL b) = k := ⟨_, rfl⟩
  rw [hcu] at cb1
  rw [hcm] at cb2
  rw [hca] at cb3
  rw [hcb] at cb4
  rw [hcu, hcm, hca, hcb] at CE
  have Hcu : Hid _ := hcu
  have Hcm : Hid _ := hcm
  have Hca : Hid _ := hca
  have Hcb : Hid _ := hcb
  clear hcu hcm hca hcb
  have w1e : wrap64 (cu + cm) = cu + cm := w64 (by omega) (by omega)
  have w2e : wrap64 (ca + cb) = ca + cb := w64 (by omega) (by omega)
  have ceq : (cu + cm == ca + cb) = true := beq_iff_eq.2 CE.out
  have ne1 : (n == m) = true := beq_iff_eq.2 he
  have ne2 : (n != m) = false := by unfold bne; rw [ne1]; rfl
  clear hx hy he CE
  have Ra0 : Hid (Row encP 2 w va a) := ha
  obtain ⟨aoa, capa, rfl, _⟩ := id ha
  have Rb0 : Hid (Row encP 2 w vb b) := hb
  obtain ⟨aob, capb, rfl, _⟩ := id hb
  clear ha hb
  have B0 : Hid (Below w.heap.size w w) := Below.refl _ _
  have ia : ¬ (40 : Int) < (a.length : Int) := by omega
  have ib : ¬ (40 : Int) < (b.length : Int) := by omega
  go_enter Try.func5, Try.ntmps5
  have C1 : Hid (Calls Try.prog 9 #[] w fun e w' => e = .returned (.bool true) ∧ Below w.heap.size w w') := works_any w
  go_wp2_with fail
  refine Calls.mono C1.out ?_
  rintro e w1 ⟨rfl, b1⟩
  clear C1
  have Ra1 : Hid (Row encP 2 w1 _ a) := Ra0.out.below b1
  have Rb1 : Hid (Row encP 2 w1 _ b) := Rb0.out.below b1
  have B1 : Hid (Below w.heap.size w w1) := B0.out.trans (b1.mono B0.out.size)
  clear Ra0 Rb0 B0
  clear b1
  have C2 : Hid (Calls Try.prog 20 #[.slice aoa a.length capa, .int .i64 n] w1 fun e w' => e = .returned (.bool false) ∧ Below w1.heap.size w1 w') := has_is _ a n false w1 Ra1.out (by omega) HX.out
  go_wp2_with fail
  refine Calls.mono C2.out ?_
  rintro e w2 ⟨rfl, b2⟩
  clear C2
  have Ra2 : Hid (Row encP 2 w2 _ a) := Ra1.out.below b2
  have Rb2 : Hid (Row encP 2 w2 _ b) := Rb1.out.below b2
  have B2 : Hid (Below w.heap.size w w2) := B1.out.trans (b2.mono B1.out.size)
  clear Ra1 Rb1 B1
  clear b2
  have C3 : Hid (Calls Try.prog 20 #[.slice aob b.length capb, .int .i64 n] w2 fun e w' => e = .returned (.bool true) ∧ Below w2.heap.size w2 w') := has_is _ b n true w2 Rb2.out (by omega) HY.out
  go_wp2_with fail
  refine Calls.mono C3.out ?_
  rintro e w3 ⟨rfl, b3⟩
  clear C3
  have Ra3 : Hid (Row encP 2 w3 _ a) := Ra2.out.below b3
  have Rb3 : Hid (Row encP 2 w3 _ b) := Rb2.out.below b3
  have B3 : Hid (Below w.heap.size w w3) := B2.out.trans (b3.mono B2.out.size)
  clear Ra2 Rb2 B2
  clear b3
  have C4 : Hid (Calls Try.prog 13 #[.slice aoa a.length capa, .slice aob b.length capb] w3 (Gives w3 (unL a b))) := by
    show Calls _ _ _ _ _
    have := union_g _ _ a b w3 Ra3.out Rb3.out (by omega)
    exact this
  go_wp2_with fail
  refine Calls.mono C4.out ?_
  rintro e w4 ⟨aor1, nr1, cr1, rfl, rr1, b4⟩
  obtain ⟨_, _, kr1, _⟩ := id rr1
  cases kr1
  clear C4
  have Ra4 : Hid (Row encP 2 w4 _ a) := Ra3.out.below b4
  have Rb4 : Hid (Row encP 2 w4 _ b) := Rb3.out.below b4
  have B4 : Hid (Below w.heap.size w w4) := B3.out.trans (b4.mono B3.out.size)
  clear Ra3 Rb3 B3
  clear b4
  have Rr14 : Hid (Row encP 2 w4 _ (unL a b)) := rr1
  clear rr1
  have C5 : Hid (Calls Try.prog 20 #[.slice aor1 (unL a b).length cr1, .int .i64 n] w4 fun e w' => e = .returned (.bool true) ∧ Below w4.heap.size w4 w') := has_is _ (unL a b) n true w4 Rr14.out (by have := unL_length a b; omega) E1.out
  go_wp2_with fail
  refine Calls.mono C5.out ?_
  rintro e w5 ⟨rfl, b5⟩
  clear C5
  have Ra5 : Hid (Row encP 2 w5 _ a) := Ra4.out.below b5
  have Rb5 : Hid (Row encP 2 w5 _ b) := Rb4.out.below b5
  have Rr15 : Hid (Row encP 2 w5 _ (unL a b)) := Rr14.out.below b5
  have B5 : Hid (Below w.heap.size w w5) := B4.out.trans (b5.mono B4.out.size)
  clear Ra4 Rb4 Rr14 B4
  clear b5
  clear Rr15
  have C6 : Hid (Calls Try.prog 15 #[.slice aoa a.length capa, .slice aob b.length capb] w5 (Gives w5 (mnL a b))) := by
    show Calls _ _ _ _ _
    have := minus_g _ _ a b w5 Ra5.out Rb5.out (by omega)
    exact this
  go_wp2_with fail
  refine Calls.mono C6.out ?_
  rintro e w6 ⟨aor2, nr2, cr2, rfl, rr2, b6⟩
  obtain ⟨_, _, kr2, _⟩ := id rr2
  cases kr2
  clear C6
  have Ra6 : Hid (Row encP 2 w6 _ a) := Ra5.out.below b6
  have Rb6 : Hid (Row encP 2 w6 _ b) := Rb5.out.below b6
  have B6 : Hid (Below w.heap.size w w6) := B5.out.trans (b6.mono B5.out.size)
  clear Ra5 Rb5 B5
  clear b6
  have Rr26 : Hid (Row encP 2 w6 _ (mnL a b)) := rr2
  clear rr2
  have C7 : Hid (Calls Try.prog 20 #[.slice aor2 (mnL a b).length cr2, .int .i64 n] w6 fun e w' => e = .returned (.bool false) ∧ Below w6.heap.size w6 w') := has_is _ (mnL a b) n false w6 Rr26.out (by have := mnL_length a b; omega) E2.out
  go_wp2_with fail
  refine Calls.mono C7.out ?_
  rintro e w7 ⟨rfl, b7⟩
  clear C7
  have Ra7 : Hid (Row encP 2 w7 _ a) := Ra6.out.below b7
  have Rb7 : Hid (Row encP 2 w7 _ b) := Rb6.out.below b7
  have Rr27 : Hid (Row encP 2 w7 _ (mnL a b)) := Rr26.out.below b7
  have B7 : Hid (Below w.heap.size w w7) := B6.out.trans (b7.mono B6.out.size)
  clear Ra6 Rb6 Rr26 B6
  clear b7
  clear Rr27
  have C8 : Hid (Calls Try.prog 16 #[.slice aoa a.length capa, .slice aob b.length capb] w7 (Gives w7 (meL a b))) := by
    show Calls _ _ _ _ _
    have := meet_g _ _ a b w7 Ra7.out Rb7.out (by omega)
    exact this
  go_wp2_with fail
  refine Calls.mono C8.out ?_
  rintro e w8 ⟨aor3, nr3, cr3, rfl, rr3, b8⟩
  obtain ⟨_, _, kr3, _⟩ := id rr3
  cases kr3
  clear C8
  have Ra8 : Hid (Row encP 2 w8 _ a) := Ra7.out.below b8
  have Rb8 : Hid (Row encP 2 w8 _ b) := Rb7.out.below b8
  have B8 : Hid (Below w.heap.size w w8) := B7.out.trans (b8.mono B7.out.size)
  clear Ra7 Rb7 B7
  clear b8
  have Rr38 : Hid (Row encP 2 w8 _ (meL a b)) := rr3
  clear rr3
  have C9 : Hid (Calls Try.prog 20 #[.slice aor3 (meL a b).length cr3, .int .i64 n] w8 fun e w' => e = .returned (.bool false) ∧ Below w8.heap.size w8 w') := has_is _ (meL a b) n false w8 Rr38.out (by have := meL_length a b; omega) E3.out
  go_wp2_with fail
  refine Calls.mono C9.out ?_
  rintro e w9 ⟨rfl, b9⟩
  clear C9
  have Ra9 : Hid (Row encP 2 w9 _ a) := Ra8.out.below b9
  have Rb9 : Hid (Row encP 2 w9 _ b) := Rb8.out.below b9
  have Rr39 : Hid (Row encP 2 w9 _ (meL a b)) := Rr38.out.below b9
  have B9 : Hid (Below w.heap.size w w9) := B8.out.trans (b9.mono B8.out.size)
  clear Ra8 Rb8 Rr38 B8
  clear b9
  clear Rr39
  have C10 : Hid (Calls Try.prog 17 #[.slice aoa a.length capa, .int .i64 m] w9 (Gives w9 (unL a [(m, m)]))) := by
    show Calls _ _ _ _ _
    have := add_g _ a m w9 Ra9.out (by omega)
    exact this
  go_wp2_with fail
  refine Calls.mono C10.out ?_
  rintro e w10 ⟨aor4, nr4, cr4, rfl, rr4, b10⟩
  obtain ⟨_, _, kr4, _⟩ := id rr4
  cases kr4
  clear C10
  have Ra10 : Hid (Row encP 2 w10 _ a) := Ra9.out.below b10
  have Rb10 : Hid (Row encP 2 w10 _ b) := Rb9.out.below b10
  have B10 : Hid (Below w.heap.size w w10) := B9.out.trans (b10.mono B9.out.size)
  clear Ra9 Rb9 B9
  clear b10
  have Rr410 : Hid (Row encP 2 w10 _ (unL a [(m, m)])) := rr4
  clear rr4
  have C11 : Hid (Calls Try.prog 20 #[.slice aor4 (unL a [(m, m)]).length cr4, .int .i64 n] w10 fun e w' => e = .returned (.bool true) ∧ Below w10.heap.size w10 w') := has_is _ (unL a [(m, m)]) n true w10 Rr410.out (by have := len_one m; have := unL_length a [(m, m)]; omega) E4.out
  go_wp2_with fail
  refine Calls.mono C11.out ?_
  rintro e w11 ⟨rfl, b11⟩
  clear C11
  have Ra11 : Hid (Row encP 2 w11 _ a) := Ra10.out.below b11
  have Rb11 : Hid (Row encP 2 w11 _ b) := Rb10.out.below b11
  have Rr411 : Hid (Row encP 2 w11 _ (unL a [(m, m)])) := Rr410.out.below b11
  have B11 : Hid (Below w.heap.size w w11) := B10.out.trans (b11.mono B10.out.size)
  clear Ra10 Rb10 Rr410 B10
  clear b11
  clear Rr411
  have C12 : Hid (Calls Try.prog 18 #[.slice aoa a.length capa, .int .i64 m] w11 (Gives w11 (mnL a [(m, m)]))) := by
    show Calls _ _ _ _ _
    have := remove_g _ a m w11 Ra11.out (by omega)
    exact this
  go_wp2_with fail
  refine Calls.mono C12.out ?_
  rintro e w12 ⟨aor5, nr5, cr5, rfl, rr5, b12⟩
  obtain ⟨_, _, kr5, _⟩ := id rr5
  cases kr5
  clear C12
  have Ra12 : Hid (Row encP 2 w12 _ a) := Ra11.out.below b12
  have Rb12 : Hid (Row encP 2 w12 _ b) := Rb11.out.below b12
  have B12 : Hid (Below w.heap.size w w12) := B11.out.trans (b12.mono B11.out.size)
  clear Ra11 Rb11 B11
  clear b12
  have Rr512 : Hid (Row encP 2 w12 _ (mnL a [(m, m)])) := rr5
  clear rr5
  have C13 : Hid (Calls Try.prog 20 #[.slice aor5 (mnL a [(m, m)]).length cr5, .int .i64 n] w12 fun e w' => e = .returned (.bool false) ∧ Below w12.heap.size w12 w') := has_is _ (mnL a [(m, m)]) n false w12 Rr512.out (by have := len_one m; have := mnL_length a [(m, m)]; omega) E5.out
  go_wp2_with fail
  refine Calls.mono C13.out ?_
  rintro e w13 ⟨rfl, b13⟩
  clear C13
  have Ra13 : Hid (Row encP 2 w13 _ a) := Ra12.out.below b13
  have Rb13 : Hid (Row encP 2 w13 _ b) := Rb12.out.below b13
  have Rr513 : Hid (Row encP 2 w13 _ (mnL a [(m, m)])) := Rr512.out.below b13
  have B13 : Hid (Below w.heap.size w w13) := B12.out.trans (b13.mono B12.out.size)
  clear Ra12 Rb12 Rr512 B12
  clear b13
  clear Rr513
  have C14 : Hid (Calls Try.prog 13 #[.slice aoa a.length capa, .slice aob b.length capb] w13 (Gives w13 (unL a b))) := by
    show Calls _ _ _ _ _
    have := union_g _ _ a b w13 Ra13.out Rb13.out (by omega)
    exact this
  go_wp2_with fail
  refine Calls.mono C14.out ?_
  rintro e w14 ⟨aor6, nr6, cr6, rfl, rr6, b14⟩
  obtain ⟨_, _, kr6, _⟩ := id rr6
  cases kr6
  clear C14
  have Ra14 : Hid (Row encP 2 w14 _ a) := Ra13.out.below b14
  have Rb14 : Hid (Row encP 2 w14 _ b) := Rb13.out.below b14
  have B14 : Hid (Below w.heap.size w w14) := B13.out.trans (b14.mono B13.out.size)
  clear Ra13 Rb13 B13
  clear b14
  have Rr614 : Hid (Row encP 2 w14 _ (unL a b)) := rr6
  clear rr6
  have C15 : Hid (Calls Try.prog 22 #[.slice aor6 (unL a b).length cr6] w14 fun e w' => e = .returned (.int .i64 cu) ∧ Below w14.heap.size w14 w') := by show Calls _ _ _ _ _; have := count_cn _ _ w14 Rr614.out (unL_cn a b) (by have := unL_length a b; omega); rw [Hcu.out] at this; exact this
  go_wp2_with fail
  refine Calls.mono C15.out ?_
  rintro e w15 ⟨rfl, b15⟩
  clear C15
  have Ra15 : Hid (Row encP 2 w15 _ a) := Ra14.out.below b15
  have Rb15 : Hid (Row encP 2 w15 _ b) := Rb14.out.below b15
  have Rr615 : Hid (Row encP 2 w15 _ (unL a b)) := Rr614.out.below b15
  have B15 : Hid (Below w.heap.size w w15) := B14.out.trans (b15.mono B14.out.size)
  clear Ra14 Rb14 Rr614 B14
  clear b15
  clear Rr615
  have C16 : Hid (Calls Try.prog 16 #[.slice aoa a.length capa, .slice aob b.length capb] w15 (Gives w15 (meL a b))) := by
    show Calls _ _ _ _ _
    have := meet_g _ _ a b w15 Ra15.out Rb15.out (by omega)
    exact this
  go_wp2_with fail
  refine Calls.mono C16.out ?_
  rintro e w16 ⟨aor7, nr7, cr7, rfl, rr7, b16⟩
  obtain ⟨_, _, kr7, _⟩ := id rr7
  cases kr7
  clear C16
  have Ra16 : Hid (Row encP 2 w16 _ a) := Ra15.out.below b16
  have Rb16 : Hid (Row encP 2 w16 _ b) := Rb15.out.below b16
  have B16 : Hid (Below w.heap.size w w16) := B15.out.trans (b16.mono B15.out.size)
  clear Ra15 Rb15 B15
  clear b16
  have Rr716 : Hid (Row encP 2 w16 _ (meL a b)) := rr7
  clear rr7
  have C17 : Hid (Calls Try.prog 22 #[.slice aor7 (meL a b).length cr7] w16 fun e w' => e = .returned (.int .i64 cm) ∧ Below w16.heap.size w16 w') := by show Calls _ _ _ _ _; have := count_cn _ _ w16 Rr716.out (meL_cn a b) (by have := meL_length a b; omega); rw [Hcm.out] at this; exact this
  go_wp2_with fail
  refine Calls.mono C17.out ?_
  rintro e w17 ⟨rfl, b17⟩
  clear C17
  have Ra17 : Hid (Row encP 2 w17 _ a) := Ra16.out.below b17
  have Rb17 : Hid (Row encP 2 w17 _ b) := Rb16.out.below b17
  have Rr717 : Hid (Row encP 2 w17 _ (meL a b)) := Rr716.out.below b17
  have B17 : Hid (Below w.heap.size w w17) := B16.out.trans (b17.mono B16.out.size)
  clear Ra16 Rb16 Rr716 B16
  clear b17
  clear Rr717
  have C18 : Hid (Calls Try.prog 22 #[.slice aoa a.length capa] w17 fun e w' => e = .returned (.int .i64 ca) ∧ Below w17.heap.size w17 w') := by show Calls _ _ _ _ _; have := count_any _ _ w17 Ra17.out (by omega); rw [Hca.out] at this; exact this
  go_wp2_with fail
  refine Calls.mono C18.out ?_
  rintro e w18 ⟨rfl, b18⟩
  clear C18
  have Ra18 : Hid (Row encP 2 w18 _ a) := Ra17.out.below b18
  have Rb18 : Hid (Row encP 2 w18 _ b) := Rb17.out.below b18
  have B18 : Hid (Below w.heap.size w w18) := B17.out.trans (b18.mono B17.out.size)
  clear Ra17 Rb17 B17
  clear b18
  have C19 : Hid (Calls Try.prog 22 #[.slice aob b.length capb] w18 fun e w' => e = .returned (.int .i64 cb) ∧ Below w18.heap.size w18 w') := by show Calls _ _ _ _ _; have := count_any _ _ w18 Rb18.out (by omega); rw [Hcb.out] at this; exact this
  go_wp2_with fail
  refine Calls.mono C19.out ?_
  rintro e w19 ⟨rfl, b19⟩
  clear C19
  have Ra19 : Hid (Row encP 2 w19 _ a) := Ra18.out.below b19
  have Rb19 : Hid (Row encP 2 w19 _ b) := Rb18.out.below b19
  have B19 : Hid (Below w.heap.size w w19) := B18.out.trans (b19.mono B18.out.size)
  clear Ra18 Rb18 B18
  clear b19
  go_wp2
  go_ret
  exact ⟨rfl, B19.out⟩

set_option maxRecDepth 100000 in
set_option maxHeartbeats 4000000 in
theorem logic.c5 (va : Value) (a : List Pr) (vb : Value) (b : List Pr) (n : Int) (m : Int) (w : World) (ha : Row encP 2 w va a) (hb : Row encP 2 w vb b) (la : a.length ≤ 40) (lb : b.length ≤ 40) (hx : hasB a n = false) (hy : hasB b n = true) (t0 : 0 ≤ n) (t1 : n ≤ 4294967295) (he : n ≠ m) : Calls Try.prog 5 #[va, vb, .int .i64 n, .int .i64 m] w fun e w' => e = .returned (.bool true) ∧ Below w.heap.size w w' := by
  have HX : Hid (hasB a n = false) := hx
  have HY : Hid (hasB b n = true) := hy
  have E1 : Hid (hasB (unL a b) n = true) := by show _ = _; rw [has_un, hx, hy]; rfl
  have E2 : Hid (hasB (mnL a b) n = false) := by show _ = _; rw [has_mn, hx, hy]; rfl
  have E3 : Hid (hasB (meL a b) n = false) := by show _ = _; rw [has_me, hx, hy]; rfl
  have E4 : Hid (hasB (unL a [(m, m)]) n = false) := by show _ = _; rw [has_un, hx, has_one]; simp only [Bool.false_or]; exact decide_eq_false (by omega)
  have E5 : Hid (hasB (mnL a [(m, m)]) n = false) := by show _ = _; rw [has_mn, hx, has_one]; rfl
  have CE : Hid (cntL (unL a b) + cntL (meL a b) = cntL (nmL a) + cntL (nmL b)) := cnt_un_me a b
  have cb1 := cnt_le (unL_cn a b)
  have cb2 := cnt_le (meL_cn a b)
  have cb3 := cnt_le (nmL_cn a)
  have cb4 := cnt_le (nmL_cn b)
  obtain ⟨cu, hcu⟩ : ∃ k, cntL (unL a b) = k := ⟨_, rfl⟩
  obtain ⟨cm, hcm⟩ : ∃ k, cntL (meL a b) = k := ⟨_, rfl⟩
  obtain ⟨ca, hca⟩ : ∃ k, cntL (nmL a) = k := ⟨_, rfl⟩
  obtain ⟨cb, hcb⟩ : ∃ k, cntL (nmL b) = k := ⟨_, rfl⟩
  rw [hcu] at cb1
  rw [hcm] at cb2
  rw [hca] at cb3
  rw [hcb] at cb4
  rw [hcu, hcm, hca, hcb] at CE
  have Hcu : Hid _ := hcu
  have Hcm : Hid _ := hcm
  have Hca : Hid _ := hca
  have Hcb : Hid _ := hcb
  clear hcu hcm hca hcb
  have w1e : wrap64 (cu + cm) = cu + cm := w64 (by omega) (by omega)
  have w2e : wrap64 (ca + cb) = ca + cb := w64 (by omega) (by omega)
  have ceq : (cu + cm == ca + cb) = true := beq_iff_eq.2 CE.out
  have ne1 : (n == m) = false := beq_eq_false_iff_ne.2 he
  have ne2 : (n != m) = true := by unfold bne; rw [ne1]; rfl
  clear hx hy he CE
  have Ra0 : Hid (Row encP 2 w va a) := ha
  obtain ⟨aoa, capa, rfl, _⟩ := id ha
  have Rb0 : Hid (Row encP 2 w vb b) := hb
  obtain ⟨aob, capb, rfl, _⟩ := id hb
  clear ha hb
  have B0 : Hid (Below w.heap.size w w) := Below.refl _ _
  have ia : ¬ (40 : Int) < (a.length : Int) := by omega
  have ib : ¬ (40 : Int) < (b.length : Int) := by omega
  go_enter Try.func5, Try.ntmps5
  have C1 : Hid (Calls Try.prog 9 #[] w fun e w' => e = .returned (.bool true) ∧ Below w.heap.size w w') := works_any w
  go_wp2_with fail
  refine Calls.mono C1.out ?_
  rintro e w1 ⟨rfl, b1⟩
  clear C1
  have Ra1 : Hid (Row encP 2 w1 _ a) := Ra0.out.below b1
  have Rb1 : Hid (Row encP 2 w1 _ b) := Rb0.out.below b1
  have B1 : Hid (Below w.heap.size w w1) := B0.out.trans (b1.mono B0.out.size)
  clear Ra0 Rb0 B0
  clear b1
  have C2 : Hid (Calls Try.prog 20 #[.slice aoa a.length capa, .int .i64 n] w1 fun e w' => e = .returned (.bool false) ∧ Below w1.heap.size w1 w') := has_is _ a n false w1 Ra1.out (by omega) HX.out
  go_wp2_with fail
  refine Calls.mono C2.out ?_
  rintro e w2 ⟨rfl, b2⟩
  clear C2
  have Ra2 : Hid (Row encP 2 w2 _ a) := Ra1.out.below b2
  have Rb2 : Hid (Row encP 2 w2 _ b) := Rb1.out.below b2
  have B2 : Hid (Below w.heap.size w w2) := B1.out.trans (b2.mono B1.out.size)
  clear Ra1 Rb1 B1
  clear b2
  have C3 : Hid (Calls Try.prog 20 #[.slice aob b.length capb, .int .i64 n] w2 fun e w' => e = .returned (.bool true) ∧ Below w2.heap.size w2 w') := has_is _ b n true w2 Rb2.out (by omega) HY.out
  go_wp2_with fail
  refine Calls.mono C3.out ?_
  rintro e w3 ⟨rfl, b3⟩
  clear C3
  have Ra3 : Hid (Row encP 2 w3 _ a) := Ra2.out.below b3
  have Rb3 : Hid (Row encP 2 w3 _ b) := Rb2.out.below b3
  have B3 : Hid (Below w.heap.size w w3) := B2.out.trans (b3.mono B2.out.size)
  clear Ra2 Rb2 B2
  clear b3
  have C4 : Hid (Calls Try.prog 13 #[.slice aoa a.length capa, .slice aob b.length capb] w3 (Gives w3 (unL a b))) := by
    show Calls _ _ _ _ _
    have := union_g _ _ a b w3 Ra3.out Rb3.out (by omega)
    exact this
  go_wp2_with fail
  refine Calls.mono C4.out ?_
  rintro e w4 ⟨aor1, nr1, cr1, rfl, rr1, b4⟩
  obtain ⟨_, _, kr1, _⟩ := id rr1
  cases kr1
  clear C4
  have Ra4 : Hid (Row encP 2 w4 _ a) := Ra3.out.below b4
  have Rb4 : Hid (Row encP 2 w4 _ b) := Rb3.out.below b4
  have B4 : Hid (Below w.heap.size w w4) := B3.out.trans (b4.mono B3.out.size)
  clear Ra3 Rb3 B3
  clear b4
  have Rr14 : Hid (Row encP 2 w4 _ (unL a b)) := rr1
  clear rr1
  have C5 : Hid (Calls Try.prog 20 #[.slice aor1 (unL a b).length cr1, .int .i64 n] w4 fun e w' => e = .returned (.bool true) ∧ Below w4.heap.size w4 w') := has_is _ (unL a b) n true w4 Rr14.out (by have := unL_length a b; omega) E1.out
  go_wp2_with fail
  refine Calls.mono C5.out ?_
  rintro e w5 ⟨rfl, b5⟩
  clear C5
  have Ra5 : Hid (Row encP 2 w5 _ a) := Ra4.out.below b5
  have Rb5 : Hid (Row encP 2 w5 _ b) := Rb4.out.below b5
  have Rr15 : Hid (Row encP 2 w5 _ (unL a b)) := Rr14.out.below b5
  have B5 : Hid (Below w.heap.size w w5) := B4.out.trans (b5.mono B4.out.size)
  clear Ra4 Rb4 Rr14 B4
  clear b5
  clear Rr15
  have C6 : Hid (Calls Try.prog 15 #[.slice aoa a.length capa, .slice aob b.length capb] w5 (Gives w5 (mnL a b))) := by
    show Calls _ _ _ _ _
    have := minus_g _ _ a b w5 Ra5.out Rb5.out (by omega)
    exact this
  go_wp2_with fail
  refine Calls.mono C6.out ?_
  rintro e w6 ⟨aor2, nr2, cr2, rfl, rr2, b6⟩
  obtain ⟨_, _, kr2, _⟩ := id rr2
  cases kr2
  clear C6
  have Ra6 : Hid (Row encP 2 w6 _ a) := Ra5.out.below b6
  have Rb6 : Hid (Row encP 2 w6 _ b) := Rb5.out.below b6
  have B6 : Hid (Below w.heap.size w w6) := B5.out.trans (b6.mono B5.out.size)
  clear Ra5 Rb5 B5
  clear b6
  have Rr26 : Hid (Row encP 2 w6 _ (mnL a b)) := rr2
  clear rr2
  have C7 : Hid (Calls Try.prog 20 #[.slice aor2 (mnL a b).length cr2, .int .i64 n] w6 fun e w' => e = .returned (.bool false) ∧ Below w6.heap.size w6 w') := has_is _ (mnL a b) n false w6 Rr26.out (by have := mnL_length a b; omega) E2.out
  go_wp2_with fail
  refine Calls.mono C7.out ?_
  rintro e w7 ⟨rfl, b7⟩
  clear C7
  have Ra7 : Hid (Row encP 2 w7 _ a) := Ra6.out.below b7
  have Rb7 : Hid (Row encP 2 w7 _ b) := Rb6.out.below b7
  have Rr27 : Hid (Row encP 2 w7 _ (mnL a b)) := Rr26.out.below b7
  have B7 : Hid (Below w.heap.size w w7) := B6.out.trans (b7.mono B6.out.size)
  clear Ra6 Rb6 Rr26 B6
  clear b7
  clear Rr27
  have C8 : Hid (Calls Try.prog 16 #[.slice aoa a.length capa, .slice aob b.length capb] w7 (Gives w7 (meL a b))) := by
    show Calls _ _ _ _ _
    have := meet_g _ _ a b w7 Ra7.out Rb7.out (by omega)
    exact this
  go_wp2_with fail
  refine Calls.mono C8.out ?_
  rintro e w8 ⟨aor3, nr3, cr3, rfl, rr3, b8⟩
  obtain ⟨_, _, kr3, _⟩ := id rr3
  cases kr3
  clear C8
  have Ra8 : Hid (Row encP 2 w8 _ a) := Ra7.out.below b8
  have Rb8 : Hid (Row encP 2 w8 _ b) := Rb7.out.below b8
  have B8 : Hid (Below w.heap.size w w8) := B7.out.trans (b8.mono B7.out.size)
  clear Ra7 Rb7 B7
  clear b8
  have Rr38 : Hid (Row encP 2 w8 _ (meL a b)) := rr3
  clear rr3
  have C9 : Hid (Calls Try.prog 20 #[.slice aor3 (meL a b).length cr3, .int .i64 n] w8 fun e w' => e = .returned (.bool false) ∧ Below w8.heap.size w8 w') := has_is _ (meL a b) n false w8 Rr38.out (by have := meL_length a b; omega) E3.out
  go_wp2_with fail
  refine Calls.mono C9.out ?_
  rintro e w9 ⟨rfl, b9⟩
  clear C9
  have Ra9 : Hid (Row encP 2 w9 _ a) := Ra8.out.below b9
  have Rb9 : Hid (Row encP 2 w9 _ b) := Rb8.out.below b9
  have Rr39 : Hid (Row encP 2 w9 _ (meL a b)) := Rr38.out.below b9
  have B9 : Hid (Below w.heap.size w w9) := B8.out.trans (b9.mono B8.out.size)
  clear Ra8 Rb8 Rr38 B8
  clear b9
  clear Rr39
  have C10 : Hid (Calls Try.prog 17 #[.slice aoa a.length capa, .int .i64 m] w9 (Gives w9 (unL a [(m, m)]))) := by
    show Calls _ _ _ _ _
    have := add_g _ a m w9 Ra9.out (by omega)
    exact this
  go_wp2_with fail
  refine Calls.mono C10.out ?_
  rintro e w10 ⟨aor4, nr4, cr4, rfl, rr4, b10⟩
  obtain ⟨_, _, kr4, _⟩ := id rr4
  cases kr4
  clear C10
  have Ra10 : Hid (Row encP 2 w10 _ a) := Ra9.out.below b10
  have Rb10 : Hid (Row encP 2 w10 _ b) := Rb9.out.below b10
  have B10 : Hid (Below w.heap.size w w10) := B9.out.trans (b10.mono B9.out.size)
  clear Ra9 Rb9 B9
  clear b10
  have Rr410 : Hid (Row encP 2 w10 _ (unL a [(m, m)])) := rr4
  clear rr4
  have C11 : Hid (Calls Try.prog 20 #[.slice aor4 (unL a [(m, m)]).length cr4, .int .i64 n] w10 fun e w' => e = .returned (.bool false) ∧ Below w10.heap.size w10 w') := has_is _ (unL a [(m, m)]) n false w10 Rr410.out (by have := len_one m; have := unL_length a [(m, m)]; omega) E4.out
  go_wp2_with fail
  refine Calls.mono C11.out ?_
  rintro e w11 ⟨rfl, b11⟩
  clear C11
  have Ra11 : Hid (Row encP 2 w11 _ a) := Ra10.out.below b11
  have Rb11 : Hid (Row encP 2 w11 _ b) := Rb10.out.below b11
  have Rr411 : Hid (Row encP 2 w11 _ (unL a [(m, m)])) := Rr410.out.below b11
  have B11 : Hid (Below w.heap.size w w11) := B10.out.trans (b11.mono B10.out.size)
  clear Ra10 Rb10 Rr410 B10
  clear b11
  clear Rr411
  have C12 : Hid (Calls Try.prog 18 #[.slice aoa a.length capa, .int .i64 m] w11 (Gives w11 (mnL a [(m, m)]))) := by
    show Calls _ _ _ _ _
    have := remove_g _ a m w11 Ra11.out (by omega)
    exact this
  go_wp2_with fail
  refine Calls.mono C12.out ?_
  rintro e w12 ⟨aor5, nr5, cr5, rfl, rr5, b12⟩
  obtain ⟨_, _, kr5, _⟩ := id rr5
  cases kr5
  clear C12
  have Ra12 : Hid (Row encP 2 w12 _ a) := Ra11.out.below b12
  have Rb12 : Hid (Row encP 2 w12 _ b) := Rb11.out.below b12
  have B12 : Hid (Below w.heap.size w w12) := B11.out.trans (b12.mono B11.out.size)
  clear Ra11 Rb11 B11
  clear b12
  have Rr512 : Hid (Row encP 2 w12 _ (mnL a [(m, m)])) := rr5
  clear rr5
  have C13 : Hid (Calls Try.prog 20 #[.slice aor5 (mnL a [(m, m)]).length cr5, .int .i64 n] w12 fun e w' => e = .returned (.bool false) ∧ Below w12.heap.size w12 w') := has_is _ (mnL a [(m, m)]) n false w12 Rr512.out (by have := len_one m; have := mnL_length a [(m, m)]; omega) E5.out
  go_wp2_with fail
  refine Calls.mono C13.out ?_
  rintro e w13 ⟨rfl, b13⟩
  clear C13
  have Ra13 : Hid (Row encP 2 w13 _ a) := Ra12.out.below b13
  have Rb13 : Hid (Row encP 2 w13 _ b) := Rb12.out.below b13
  have Rr513 : Hid (Row encP 2 w13 _ (mnL a [(m, m)])) := Rr512.out.below b13
  have B13 : Hid (Below w.heap.size w w13) := B12.out.trans (b13.mono B12.out.size)
  clear Ra12 Rb12 Rr512 B12
  clear b13
  clear Rr513
  have C14 : Hid (Calls Try.prog 13 #[.slice aoa a.length capa, .slice aob b.length capb] w13 (Gives w13 (unL a b))) := by
    show Calls _ _ _ _ _
    have := union_g _ _ a b w13 Ra13.out Rb13.out (by omega)
    exact this
  go_wp2_with fail
  refine Calls.mono C14.out ?_
  rintro e w14 ⟨aor6, nr6, cr6, rfl, rr6, b14⟩
  obtain ⟨_, _, kr6, _⟩ := id rr6
  cases kr6
  clear C14
  have Ra14 : Hid (Row encP 2 w14 _ a) := Ra13.out.below b14
  have Rb14 : Hid (Row encP 2 w14 _ b) := Rb13.out.below b14
  have B14 : Hid (Below w.heap.size w w14) := B13.out.trans (b14.mono B13.out.size)
  clear Ra13 Rb13 B13
  clear b14
  have Rr614 : Hid (Row encP 2 w14 _ (unL a b)) := rr6
  clear rr6
  have C15 : Hid (Calls Try.prog 22 #[.slice aor6 (unL a b).length cr6] w14 fun e w' => e = .returned (.int .i64 cu) ∧ Below w14.heap.size w14 w') := by show Calls _ _ _ _ _; have := count_cn _ _ w14 Rr614.out (unL_cn a b) (by have := unL_length a b; omega); rw [Hcu.out] at this; exact this
  go_wp2_with fail
  refine Calls.mono C15.out ?_
  rintro e w15 ⟨rfl, b15⟩
  clear C15
  have Ra15 : Hid (Row encP 2 w15 _ a) := Ra14.out.below b15
  have Rb15 : Hid (Row encP 2 w15 _ b) := Rb14.out.below b15
  have Rr615 : Hid (Row encP 2 w15 _ (unL a b)) := Rr614.out.below b15
  have B15 : Hid (Below w.heap.size w w15) := B14.out.trans (b15.mono B14.out.size)
  clear Ra14 Rb14 Rr614 B14
  clear b15
  clear Rr615
  have C16 : Hid (Calls Try.prog 16 #[.slice aoa a.length capa, .slice aob b.length capb] w15 (Gives w15 (meL a b))) := by
    show Calls _ _ _ _ _
    have := meet_g _ _ a b w15 Ra15.out Rb15.out (by omega)
    exact this
  go_wp2_with fail
  refine Calls.mono C16.out ?_
  rintro e w16 ⟨aor7, nr7, cr7, rfl, rr7, b16⟩
  obtain ⟨_, _, kr7, _⟩ := id rr7
  cases kr7
  clear C16
  have Ra16 : Hid (Row encP 2 w16 _ a) := Ra15.out.below b16
  have Rb16 : Hid (Row encP 2 w16 _ b) := Rb15.out.below b16
  have B16 : Hid (Below w.heap.size w w16) := B15.out.trans (b16.mono B15.out.size)
  clear Ra15 Rb15 B15
  clear b16
  have Rr716 : Hid (Row encP 2 w16 _ (meL a b)) := rr7
  clear rr7
  have C17 : Hid (Calls Try.prog 22 #[.slice aor7 (meL a b).length cr7] w16 fun e w' => e = .returned (.int .i64 cm) ∧ Below w16.heap.size w16 w') := by show Calls _ _ _ _ _; have := count_cn _ _ w16 Rr716.out (meL_cn a b) (by have := meL_length a b; omega); rw [Hcm.out] at this; exact this
  go_wp2_with fail
  refine Calls.mono C17.out ?_
  rintro e w17 ⟨rfl, b17⟩
  clear C17
  have Ra17 : Hid (Row encP 2 w17 _ a) := Ra16.out.below b17
  have Rb17 : Hid (Row encP 2 w17 _ b) := Rb16.out.below b17
  have Rr717 : Hid (Row encP 2 w17 _ (meL a b)) := Rr716.out.below b17
  have B17 : Hid (Below w.heap.size w w17) := B16.out.trans (b17.mono B16.out.size)
  clear Ra16 Rb16 Rr716 B16
  clear b17
  clear Rr717
  have C18 : Hid (Calls Try.prog 22 #[.slice aoa a.length capa] w17 fun e w' => e = .returned (.int .i64 ca) ∧ Below w17.heap.size w17 w') := by show Calls _ _ _ _ _; have := count_any _ _ w17 Ra17.out (by omega); rw [Hca.out] at this; exact this
  go_wp2_with fail
  refine Calls.mono C18.out ?_
  rintro e w18 ⟨rfl, b18⟩
  clear C18
  have Ra18 : Hid (Row encP 2 w18 _ a) := Ra17.out.below b18
  have Rb18 : Hid (Row encP 2 w18 _ b) := Rb17.out.below b18
  have B18 : Hid (Below w.heap.size w w18) := B17.out.trans (b18.mono B17.out.size)
  clear Ra17 Rb17 B17
  clear b18
  have C19 : Hid (Calls Try.prog 22 #[.slice aob b.length capb] w18 fun e w' => e = .returned (.int .i64 cb) ∧ Below w18.heap.size w18 w') := by show Calls _ _ _ _ _; have := count_any _ _ w18 Rb18.out (by omega); rw [Hcb.out] at this; exact this
  go_wp2_with fail
  refine Calls.mono C19.out ?_
  rintro e w19 ⟨rfl, b19⟩
  clear C19
  have Ra19 : Hid (Row encP 2 w19 _ a) := Ra18.out.below b19
  have Rb19 : Hid (Row encP 2 w19 _ b) := Rb18.out.below b19
  have B19 : Hid (Below w.heap.size w w19) := B18.out.trans (b19.mono B18.out.size)
  clear Ra18 Rb18 B18
  clear b19
  go_wp2
  go_ret
  exact ⟨rfl, B19.out⟩

set_option maxRecDepth 100000 in
set_option maxHeartbeats 4000000 in
theorem logic.c6 (va : Value) (a : List Pr) (vb : Value) (b : List Pr) (n : Int) (m : Int) (w : World) (ha : Row encP 2 w va a) (hb : Row encP 2 w vb b) (la : a.length ≤ 40) (lb : b.length ≤ 40) (hx : hasB a n = false) (hy : hasB b n = false) (t0 : 0 ≤ n) (t1 : n ≤ 4294967295) (he : n = m) : Calls Try.prog 5 #[va, vb, .int .i64 n, .int .i64 m] w fun e w' => e = .returned (.bool true) ∧ Below w.heap.size w w' := by
  have HX : Hid (hasB a n = false) := hx
  have HY : Hid (hasB b n = false) := hy
  have E1 : Hid (hasB (unL a b) n = false) := by show _ = _; rw [has_un, hx, hy]; rfl
  have E2 : Hid (hasB (mnL a b) n = false) := by show _ = _; rw [has_mn, hx, hy]; rfl
  have E3 : Hid (hasB (meL a b) n = false) := by show _ = _; rw [has_me, hx, hy]; rfl
  have E4 : Hid (hasB (unL a [(m, m)]) n = true) := by show _ = _; rw [has_un, hx, has_one]; simp only [Bool.false_or]; exact decide_eq_true (by omega)
  have E5 : Hid (hasB (mnL a [(m, m)]) n = false) := by show _ = _; rw [has_mn, hx, has_one]; rfl
  have CE : Hid (cntL (unL a b) + cntL (meL a b) = cntL (nmL a) + cntL (nmL b)) := cnt_un_me a b
  have cb1 := cnt_le (unL_cn a b)
  have cb2 := cnt_le (meL_cn a b)
  have cb3 := cnt_le (nmL_cn a)
  have cb4 := cnt_le (nmL_cn b)
  obtain ⟨cu, hcu⟩ : ∃ k, cntL (unL a b) = k := ⟨_, rfl⟩
  obtain ⟨cm, hcm⟩ : ∃ k, cntL (meL a b) = k := ⟨_, rfl⟩
  obtain ⟨ca, hca⟩ : ∃ k, cntL (nmL a) = k := ⟨_, rfl⟩
  obtain ⟨cb, hcb⟩ : ∃ k, cntL (nmL b) = k := ⟨_, rfl⟩
  rw [hcu] at cb1
  rw [hcm] at cb2
  rw [hca] at cb3
  rw [hcb] at cb4
  rw [hcu, hcm, hca, hcb] at CE
  have Hcu : Hid _ := hcu
  have Hcm : Hid _ := hcm
  have Hca : Hid _ := hca
  have Hcb : Hid _ := hcb
  clear hcu hcm hca hcb
  have w1e : wrap64 (cu + cm) = cu + cm := w64 (by omega) (by omega)
  have w2e : wrap64 (ca + cb) = ca + cb := w64 (by omega) (by omega)
  have ceq : (cu + cm == ca + cb) = true := beq_iff_eq.2 CE.out
  have ne1 : (n == m) = true := beq_iff_eq.2 he
  have ne2 : (n != m) = false := by unfold bne; rw [ne1]; rfl
  clear hx hy he CE
  have Ra0 : Hid (Row encP 2 w va a) := ha
  obtain ⟨aoa, capa, rfl, _⟩ := id ha
  have Rb0 : Hid (Row encP 2 w vb b) := hb
  obtain ⟨aob, capb, rfl, _⟩ := id hb
  clear ha hb
  have B0 : Hid (Below w.heap.size w w) := Below.refl _ _
  have ia : ¬ (40 : Int) < (a.length : Int) := by omega
  have ib : ¬ (40 : Int) < (b.length : Int) := by omega
  go_enter Try.func5, Try.ntmps5
  have C1 : Hid (Calls Try.prog 9 #[] w fun e w' => e = .returned (.bool true) ∧ Below w.heap.size w w') := works_any w
  go_wp2_with fail
  refine Calls.mono C1.out ?_
  rintro e w1 ⟨rfl, b1⟩
  clear C1
  have Ra1 : Hid (Row encP 2 w1 _ a) := Ra0.out.below b1
  have Rb1 : Hid (Row encP 2 w1 _ b) := Rb0.out.below b1
  have B1 : Hid (Below w.heap.size w w1) := B0.out.trans (b1.mono B0.out.size)
  clear Ra0 Rb0 B0
  clear b1
  have C2 : Hid (Calls Try.prog 20 #[.slice aoa a.length capa, .int .i64 n] w1 fun e w' => e = .returned (.bool false) ∧ Below w1.heap.size w1 w') := has_is _ a n false w1 Ra1.out (by omega) HX.out
  go_wp2_with fail
  refine Calls.mono C2.out ?_
  rintro e w2 ⟨rfl, b2⟩
  clear C2
  have Ra2 : Hid (Row encP 2 w2 _ a) := Ra1.out.below b2
  have Rb2 : Hid (Row encP 2 w2 _ b) := Rb1.out.below b2
  have B2 : Hid (Below w.heap.size w w2) := B1.out.trans (b2.mono B1.out.size)
  clear Ra1 Rb1 B1
  clear b2
  have C3 : Hid (Calls Try.prog 20 #[.slice aob b.length capb, .int .i64 n] w2 fun e w' => e = .returned (.bool false) ∧ Below w2.heap.size w2 w') := has_is _ b n false w2 Rb2.out (by omega) HY.out
  go_wp2_with fail
  refine Calls.mono C3.out ?_
  rintro e w3 ⟨rfl, b3⟩
  clear C3
  have Ra3 : Hid (Row encP 2 w3 _ a) := Ra2.out.below b3
  have Rb3 : Hid (Row encP 2 w3 _ b) := Rb2.out.below b3
  have B3 : Hid (Below w.heap.size w w3) := B2.out.trans (b3.mono B2.out.size)
  clear Ra2 Rb2 B2
  clear b3
  have C4 : Hid (Calls Try.prog 13 #[.slice aoa a.length capa, .slice aob b.length capb] w3 (Gives w3 (unL a b))) := by
    show Calls _ _ _ _ _
    have := union_g _ _ a b w3 Ra3.out Rb3.out (by omega)
    exact this
  go_wp2_with fail
  refine Calls.mono C4.out ?_
  rintro e w4 ⟨aor1, nr1, cr1, rfl, rr1, b4⟩
  obtain ⟨_, _, kr1, _⟩ := id rr1
  cases kr1
  clear C4
  have Ra4 : Hid (Row encP 2 w4 _ a) := Ra3.out.below b4
  have Rb4 : Hid (Row encP 2 w4 _ b) := Rb3.out.below b4
  have B4 : Hid (Below w.heap.size w w4) := B3.out.trans (b4.mono B3.out.size)
  clear Ra3 Rb3 B3
  clear b4
  have Rr14 : Hid (Row encP 2 w4 _ (unL a b)) := rr1
  clear rr1
  have C5 : Hid (Calls Try.prog 20 #[.slice aor1 (unL a b).length cr1, .int .i64 n] w4 fun e w' => e = .returned (.bool false) ∧ Below w4.heap.size w4 w') := has_is _ (unL a b) n false w4 Rr14.out (by have := unL_length a b; omega) E1.out
  go_wp2_with fail
  refine Calls.mono C5.out ?_
  rintro e w5 ⟨rfl, b5⟩
  clear C5
  have Ra5 : Hid (Row encP 2 w5 _ a) := Ra4.out.below b5
  have Rb5 : Hid (Row encP 2 w5 _ b) := Rb4.out.below b5
  have Rr15 : Hid (Row encP 2 w5 _ (unL a b)) := Rr14.out.below b5
  have B5 : Hid (Below w.heap.size w w5) := B4.out.trans (b5.mono B4.out.size)
  clear Ra4 Rb4 Rr14 B4
  clear b5
  clear Rr15
  have C6 : Hid (Calls Try.prog 15 #[.slice aoa a.length capa, .slice aob b.length capb] w5 (Gives w5 (mnL a b))) := by
    show Calls _ _ _ _ _
    have := minus_g _ _ a b w5 Ra5.out Rb5.out (by omega)
    exact this
  go_wp2_with fail
  refine Calls.mono C6.out ?_
  rintro e w6 ⟨aor2, nr2, cr2, rfl, rr2, b6⟩
  obtain ⟨_, _, kr2, _⟩ := id rr2
  cases kr2
  clear C6
  have Ra6 : Hid (Row encP 2 w6 _ a) := Ra5.out.below b6
  have Rb6 : Hid (Row encP 2 w6 _ b) := Rb5.out.below b6
  have B6 : Hid (Below w.heap.size w w6) := B5.out.trans (b6.mono B5.out.size)
  clear Ra5 Rb5 B5
  clear b6
  have Rr26 : Hid (Row encP 2 w6 _ (mnL a b)) := rr2
  clear rr2
  have C7 : Hid (Calls Try.prog 20 #[.slice aor2 (mnL a b).length cr2, .int .i64 n] w6 fun e w' => e = .returned (.bool false) ∧ Below w6.heap.size w6 w') := has_is _ (mnL a b) n false w6 Rr26.out (by have := mnL_length a b; omega) E2.out
  go_wp2_with fail
  refine Calls.mono C7.out ?_
  rintro e w7 ⟨rfl, b7⟩
  clear C7
  have Ra7 : Hid (Row encP 2 w7 _ a) := Ra6.out.below b7
  have Rb7 : Hid (Row encP 2 w7 _ b) := Rb6.out.below b7
  have Rr27 : Hid (Row encP 2 w7 _ (mnL a b)) := Rr26.out.below b7
  have B7 : Hid (Below w.heap.size w w7) := B6.out.trans (b7.mono B6.out.size)
  clear Ra6 Rb6 Rr26 B6
  clear b7
  clear Rr27
  have C8 : Hid (Calls Try.prog 16 #[.slice aoa a.length capa, .slice aob b.length capb] w7 (Gives w7 (meL a b))) := by
    show Calls _ _ _ _ _
    have := meet_g _ _ a b w7 Ra7.out Rb7.out (by omega)
    exact this
  go_wp2_with fail
  refine Calls.mono C8.out ?_
  rintro e w8 ⟨aor3, nr3, cr3, rfl, rr3, b8⟩
  obtain ⟨_, _, kr3, _⟩ := id rr3
  cases kr3
  clear C8
  have Ra8 : Hid (Row encP 2 w8 _ a) := Ra7.out.below b8
  have Rb8 : Hid (Row encP 2 w8 _ b) := Rb7.out.below b8
  have B8 : Hid (Below w.heap.size w w8) := B7.out.trans (b8.mono B7.out.size)
  clear Ra7 Rb7 B7
  clear b8
  have Rr38 : Hid (Row encP 2 w8 _ (meL a b)) := rr3
  clear rr3
  have C9 : Hid (Calls Try.prog 20 #[.slice aor3 (meL a b).length cr3, .int .i64 n] w8 fun e w' => e = .returned (.bool false) ∧ Below w8.heap.size w8 w') := has_is _ (meL a b) n false w8 Rr38.out (by have := meL_length a b; omega) E3.out
  go_wp2_with fail
  refine Calls.mono C9.out ?_
  rintro e w9 ⟨rfl, b9⟩
  clear C9
  have Ra9 : Hid (Row encP 2 w9 _ a) := Ra8.out.below b9
  have Rb9 : Hid (Row encP 2 w9 _ b) := Rb8.out.below b9
  have Rr39 : Hid (Row encP 2 w9 _ (meL a b)) := Rr38.out.below b9
  have B9 : Hid (Below w.heap.size w w9) := B8.out.trans (b9.mono B8.out.size)
  clear Ra8 Rb8 Rr38 B8
  clear b9
  clear Rr39
  have C10 : Hid (Calls Try.prog 17 #[.slice aoa a.length capa, .int .i64 m] w9 (Gives w9 (unL a [(m, m)]))) := by
    show Calls _ _ _ _ _
    have := add_g _ a m w9 Ra9.out (by omega)
    exact this
  go_wp2_with fail
  refine Calls.mono C10.out ?_
  rintro e w10 ⟨aor4, nr4, cr4, rfl, rr4, b10⟩
  obtain ⟨_, _, kr4, _⟩ := id rr4
  cases kr4
  clear C10
  have Ra10 : Hid (Row encP 2 w10 _ a) := Ra9.out.below b10
  have Rb10 : Hid (Row encP 2 w10 _ b) := Rb9.out.below b10
  have B10 : Hid (Below w.heap.size w w10) := B9.out.trans (b10.mono B9.out.size)
  clear Ra9 Rb9 B9
  clear b10
  have Rr410 : Hid (Row encP 2 w10 _ (unL a [(m, m)])) := rr4
  clear rr4
  have C11 : Hid (Calls Try.prog 20 #[.slice aor4 (unL a [(m, m)]).length cr4, .int .i64 n] w10 fun e w' => e = .returned (.bool true) ∧ Below w10.heap.size w10 w') := has_is _ (unL a [(m, m)]) n true w10 Rr410.out (by have := len_one m; have := unL_length a [(m, m)]; omega) E4.out
  go_wp2_with fail
  refine Calls.mono C11.out ?_
  rintro e w11 ⟨rfl, b11⟩
  clear C11
  have Ra11 : Hid (Row encP 2 w11 _ a) := Ra10.out.below b11
  have Rb11 : Hid (Row encP 2 w11 _ b) := Rb10.out.below b11
  have Rr411 : Hid (Row encP 2 w11 _ (unL a [(m, m)])) := Rr410.out.below b11
  have B11 : Hid (Below w.heap.size w w11) := B10.out.trans (b11.mono B10.out.size)
  clear Ra10 Rb10 Rr410 B10
  clear b11
  clear Rr411
  have C12 : Hid (Calls Try.prog 18 #[.slice aoa a.length capa, .int .i64 m] w11 (Gives w11 (mnL a [(m, m)]))) := by
    show Calls _ _ _ _ _
    have := remove_g _ a m w11 Ra11.out (by omega)
    exact this
  go_wp2_with fail
  refine Calls.mono C12.out ?_
  rintro e w12 ⟨aor5, nr5, cr5, rfl, rr5, b12⟩
  obtain ⟨_, _, kr5, _⟩ := id rr5
  cases kr5
  clear C12
  have Ra12 : Hid (Row encP 2 w12 _ a) := Ra11.out.below b12
  have Rb12 : Hid (Row encP 2 w12 _ b) := Rb11.out.below b12
  have B12 : Hid (Below w.heap.size w w12) := B11.out.trans (b12.mono B11.out.size)
  clear Ra11 Rb11 B11
  clear b12
  have Rr512 : Hid (Row encP 2 w12 _ (mnL a [(m, m)])) := rr5
  clear rr5
  have C13 : Hid (Calls Try.prog 20 #[.slice aor5 (mnL a [(m, m)]).length cr5, .int .i64 n] w12 fun e w' => e = .returned (.bool false) ∧ Below w12.heap.size w12 w') := has_is _ (mnL a [(m, m)]) n false w12 Rr512.out (by have := len_one m; have := mnL_length a [(m, m)]; omega) E5.out
  go_wp2_with fail
  refine Calls.mono C13.out ?_
  rintro e w13 ⟨rfl, b13⟩
  clear C13
  have Ra13 : Hid (Row encP 2 w13 _ a) := Ra12.out.below b13
  have Rb13 : Hid (Row encP 2 w13 _ b) := Rb12.out.below b13
  have Rr513 : Hid (Row encP 2 w13 _ (mnL a [(m, m)])) := Rr512.out.below b13
  have B13 : Hid (Below w.heap.size w w13) := B12.out.trans (b13.mono B12.out.size)
  clear Ra12 Rb12 Rr512 B12
  clear b13
  clear Rr513
  have C14 : Hid (Calls Try.prog 13 #[.slice aoa a.length capa, .slice aob b.length capb] w13 (Gives w13 (unL a b))) := by
    show Calls _ _ _ _ _
    have := union_g _ _ a b w13 Ra13.out Rb13.out (by omega)
    exact this
  go_wp2_with fail
  refine Calls.mono C14.out ?_
  rintro e w14 ⟨aor6, nr6, cr6, rfl, rr6, b14⟩
  obtain ⟨_, _, kr6, _⟩ := id rr6
  cases kr6
  clear C14
  have Ra14 : Hid (Row encP 2 w14 _ a) := Ra13.out.below b14
  have Rb14 : Hid (Row encP 2 w14 _ b) := Rb13.out.below b14
  have B14 : Hid (Below w.heap.size w w14) := B13.out.trans (b14.mono B13.out.size)
  clear Ra13 Rb13 B13
  clear b14
  have Rr614 : Hid (Row encP 2 w14 _ (unL a b)) := rr6
  clear rr6
  have C15 : Hid (Calls Try.prog 22 #[.slice aor6 (unL a b).length cr6] w14 fun e w' => e = .returned (.int .i64 cu) ∧ Below w14.heap.size w14 w') := by show Calls _ _ _ _ _; have := count_cn _ _ w14 Rr614.out (unL_cn a b) (by have := unL_length a b; omega); rw [Hcu.out] at this; exact this
  go_wp2_with fail
  refine Calls.mono C15.out ?_
  rintro e w15 ⟨rfl, b15⟩
  clear C15
  have Ra15 : Hid (Row encP 2 w15 _ a) := Ra14.out.below b15
  have Rb15 : Hid (Row encP 2 w15 _ b) := Rb14.out.below b15
  have Rr615 : Hid (Row encP 2 w15 _ (unL a b)) := Rr614.out.below b15
  have B15 : Hid (Below w.heap.size w w15) := B14.out.trans (b15.mono B14.out.size)
  clear Ra14 Rb14 Rr614 B14
  clear b15
  clear Rr615
  have C16 : Hid (Calls Try.prog 16 #[.slice aoa a.length capa, .slice aob b.length capb] w15 (Gives w15 (meL a b))) := by
    show Calls _ _ _ _ _
    have := meet_g _ _ a b w15 Ra15.out Rb15.out (by omega)
    exact this
  go_wp2_with fail
  refine Calls.mono C16.out ?_
  rintro e w16 ⟨aor7, nr7, cr7, rfl, rr7, b16⟩
  obtain ⟨_, _, kr7, _⟩ := id rr7
  cases kr7
  clear C16
  have Ra16 : Hid (Row encP 2 w16 _ a) := Ra15.out.below b16
  have Rb16 : Hid (Row encP 2 w16 _ b) := Rb15.out.below b16
  have B16 : Hid (Below w.heap.size w w16) := B15.out.trans (b16.mono B15.out.size)
  clear Ra15 Rb15 B15
  clear b16
  have Rr716 : Hid (Row encP 2 w16 _ (meL a b)) := rr7
  clear rr7
  have C17 : Hid (Calls Try.prog 22 #[.slice aor7 (meL a b).length cr7] w16 fun e w' => e = .returned (.int .i64 cm) ∧ Below w16.heap.size w16 w') := by show Calls _ _ _ _ _; have := count_cn _ _ w16 Rr716.out (meL_cn a b) (by have := meL_length a b; omega); rw [Hcm.out] at this; exact this
  go_wp2_with fail
  refine Calls.mono C17.out ?_
  rintro e w17 ⟨rfl, b17⟩
  clear C17
  have Ra17 : Hid (Row encP 2 w17 _ a) := Ra16.out.below b17
  have Rb17 : Hid (Row encP 2 w17 _ b) := Rb16.out.below b17
  have Rr717 : Hid (Row encP 2 w17 _ (meL a b)) := Rr716.out.below b17
  have B17 : Hid (Below w.heap.size w w17) := B16.out.trans (b17.mono B16.out.size)
  clear Ra16 Rb16 Rr716 B16
  clear b17
  clear Rr717
  have C18 : Hid (Calls Try.prog 22 #[.slice aoa a.length capa] w17 fun e w' => e = .returned (.int .i64 ca) ∧ Below w17.heap.size w17 w') := by show Calls _ _ _ _ _; have := count_any _ _ w17 Ra17.out (by omega); rw [Hca.out] at this; exact this
  go_wp2_with fail
  refine Calls.mono C18.out ?_
  rintro e w18 ⟨rfl, b18⟩
  clear C18
  have Ra18 : Hid (Row encP 2 w18 _ a) := Ra17.out.below b18
  have Rb18 : Hid (Row encP 2 w18 _ b) := Rb17.out.below b18
  have B18 : Hid (Below w.heap.size w w18) := B17.out.trans (b18.mono B17.out.size)
  clear Ra17 Rb17 B17
  clear b18
  have C19 : Hid (Calls Try.prog 22 #[.slice aob b.length capb] w18 fun e w' => e = .returned (.int .i64 cb) ∧ Below w18.heap.size w18 w') := by show Calls _ _ _ _ _; have := count_any _ _ w18 Rb18.out (by omega); rw [Hcb.out] at this; exact this
  go_wp2_with fail
  refine Calls.mono C19.out ?_
  rintro e w19 ⟨rfl, b19⟩
  clear C19
  have Ra19 : Hid (Row encP 2 w19 _ a) := Ra18.out.below b19
  have Rb19 : Hid (Row encP 2 w19 _ b) := Rb18.out.below b19
  have B19 : Hid (Below w.heap.size w w19) := B18.out.trans (b19.mono B18.out.size)
  clear Ra18 Rb18 B18
  clear b19
  go_wp2
  go_ret
  exact ⟨rfl, B19.out⟩

set_option maxRecDepth 100000 in
set_option maxHeartbeats 4000000 in
theorem logic.c7 (va : Value) (a : List Pr) (vb : Value) (b : List Pr) (n : Int) (m : Int) (w : World) (ha : Row encP 2 w va a) (hb : Row encP 2 w vb b) (la : a.length ≤ 40) (lb : b.length ≤ 40) (hx : hasB a n = false) (hy : hasB b n = false) (t0 : 0 ≤ n) (t1 : n ≤ 4294967295) (he : n ≠ m) : Calls Try.prog 5 #[va, vb, .int .i64 n, .int .i64 m] w fun e w' => e = .returned (.bool true) ∧ Below w.heap.size w w' := by
  have HX : Hid (hasB a n = false) := hx
  have HY : Hid (hasB b n = false) := hy
  have E1 : Hid (hasB (unL a b) n = false) := by show _ = _; rw [has_un, hx, hy]; rfl
  have E2 : Hid (hasB (mnL a b) n = false) := by show _ = _; rw [has_mn, hx, hy]; rfl
  have E3 : Hid (hasB (meL a b) n = false) := by show _ = _; rw [has_me, hx, hy]; rfl
  have E4 : Hid (hasB (unL a [(m, m)]) n = false) := by show _ = _; rw [has_un, hx, has_one]; simp only [Bool.false_or]; exact decide_eq_false (by omega)
  have E5 : Hid (hasB (mnL a [(m, m)]) n = false) := by show _ = _; rw [has_mn, hx, has_one]; rfl
  have CE : Hid (cntL (unL a b) + cntL (meL a b) = cntL (nmL a) + cntL (nmL b)) := cnt_un_me a b
  have cb1 := cnt_le (unL_cn a b)
  have cb2 := cnt_le (meL_cn a b)
  have cb3 := cnt_le (nmL_cn a)
  have cb4 := cnt_le (nmL_cn b)
  obtain ⟨cu, hcu⟩ : ∃ k, cntL (unL a b) = k := ⟨_, rfl⟩
  obtain ⟨cm, hcm⟩ : ∃ k, cntL (meL a b) = k := ⟨_, rfl⟩
  obtain ⟨ca, hca⟩ : ∃ k, cntL (nmL a) = k := ⟨_, rfl⟩
  obtain ⟨cb, hcb⟩ : ∃ k, cntL (nmL b) = k := ⟨_, rfl⟩
  rw [hcu] at cb1
  rw [hcm] at cb2
  rw [hca] at cb3
  rw [hcb] at cb4
  rw [hcu, hcm, hca, hcb] at CE
  have Hcu : Hid _ := hcu
  have Hcm : Hid _ := hcm
  have Hca : Hid _ := hca
  have Hcb : Hid _ := hcb
  clear hcu hcm hca hcb
  have w1e : wrap64 (cu + cm) = cu + cm := w64 (by omega) (by omega)
  have w2e : wrap64 (ca + cb) = ca + cb := w64 (by omega) (by omega)
  have ceq : (cu + cm == ca + cb) = true := beq_iff_eq.2 CE.out
  have ne1 : (n == m) = false := beq_eq_false_iff_ne.2 he
  have ne2 : (n != m) = true := by unfold bne; rw [ne1]; rfl
  clear hx hy he CE
  have Ra0 : Hid (Row encP 2 w va a) := ha
  obtain ⟨aoa, capa, rfl, _⟩ := id ha
  have Rb0 : Hid (Row encP 2 w vb b) := hb
  obtain ⟨aob, capb, rfl, _⟩ := id hb
  clear ha hb
  have B0 : Hid (Below w.heap.size w w) := Below.refl _ _
  have ia : ¬ (40 : Int) < (a.length : Int) := by omega
  have ib : ¬ (40 : Int) < (b.length : Int) := by omega
  go_enter Try.func5, Try.ntmps5
  have C1 : Hid (Calls Try.prog 9 #[] w fun e w' => e = .returned (.bool true) ∧ Below w.heap.size w w') := works_any w
  go_wp2_with fail
  refine Calls.mono C1.out ?_
  rintro e w1 ⟨rfl, b1⟩
  clear C1
  have Ra1 : Hid (Row encP 2 w1 _ a) := Ra0.out.below b1
  have Rb1 : Hid (Row encP 2 w1 _ b) := Rb0.out.below b1
  have B1 : Hid (Below w.heap.size w w1) := B0.out.trans (b1.mono B0.out.size)
  clear Ra0 Rb0 B0
  clear b1
  have C2 : Hid (Calls Try.prog 20 #[.slice aoa a.length capa, .int .i64 n] w1 fun e w' => e = .returned (.bool false) ∧ Below w1.heap.size w1 w') := has_is _ a n false w1 Ra1.out (by omega) HX.out
  go_wp2_with fail
  refine Calls.mono C2.out ?_
  rintro e w2 ⟨rfl, b2⟩
  clear C2
  have Ra2 : Hid (Row encP 2 w2 _ a) := Ra1.out.below b2
  have Rb2 : Hid (Row encP 2 w2 _ b) := Rb1.out.below b2
  have B2 : Hid (Below w.heap.size w w2) := B1.out.trans (b2.mono B1.out.size)
  clear Ra1 Rb1 B1
  clear b2
  have C3 : Hid (Calls Try.prog 20 #[.slice aob b.length capb, .int .i64 n] w2 fun e w' => e = .returned (.bool false) ∧ Below w2.heap.size w2 w') := has_is _ b n false w2 Rb2.out (by omega) HY.out
  go_wp2_with fail
  refine Calls.mono C3.out ?_
  rintro e w3 ⟨rfl, b3⟩
  clear C3
  have Ra3 : Hid (Row encP 2 w3 _ a) := Ra2.out.below b3
  have Rb3 : Hid (Row encP 2 w3 _ b) := Rb2.out.below b3
  have B3 : Hid (Below w.heap.size w w3) := B2.out.trans (b3.mono B2.out.size)
  clear Ra2 Rb2 B2
  clear b3
  have C4 : Hid (Calls Try.prog 13 #[.slice aoa a.length capa, .slice aob b.length capb] w3 (Gives w3 (unL a b))) := by
    show Calls _ _ _ _ _
    have := union_g _ _ a b w3 Ra3.out Rb3.out (by omega)
    exact this
  go_wp2_with fail
  refine Calls.mono C4.out ?_
  rintro e w4 ⟨aor1, nr1, cr1, rfl, rr1, b4⟩
  obtain ⟨_, _, kr1, _⟩ := id rr1
  cases kr1
  clear C4
  have Ra4 : Hid (Row encP 2 w4 _ a) := Ra3.out.below b4
  have Rb4 : Hid (Row encP 2 w4 _ b) := Rb3.out.below b4
  have B4 : Hid (Below w.heap.size w w4) := B3.out.trans (b4.mono B3.out.size)
  clear Ra3 Rb3 B3
  clear b4
  have Rr14 : Hid (Row encP 2 w4 _ (unL a b)) := rr1
  clear rr1
  have C5 : Hid (Calls Try.prog 20 #[.slice aor1 (unL a b).length cr1, .int .i64 n] w4 fun e w' => e = .returned (.bool false) ∧ Below w4.heap.size w4 w') := has_is _ (unL a b) n false w4 Rr14.out (by have := unL_length a b; omega) E1.out
  go_wp2_with fail
  refine Calls.mono C5.out ?_
  rintro e w5 ⟨rfl, b5⟩
  clear C5
  have Ra5 : Hid (Row encP 2 w5 _ a) := Ra4.out.below b5
  have Rb5 : Hid (Row encP 2 w5 _ b) := Rb4.out.below b5
  have Rr15 : Hid (Row encP 2 w5 _ (unL a b)) := Rr14.out.below b5
  have B5 : Hid (Below w.heap.size w w5) := B4.out.trans (b5.mono B4.out.size)
  clear Ra4 Rb4 Rr14 B4
  clear b5
  clear Rr15
  have C6 : Hid (Calls Try.prog 15 #[.slice aoa a.length capa, .slice aob b.length capb] w5 (Gives w5 (mnL a b))) := by
    show Calls _ _ _ _ _
    have := minus_g _ _ a b w5 Ra5.out Rb5.out (by omega)
    exact this
  go_wp2_with fail
  refine Calls.mono C6.out ?_
  rintro e w6 ⟨aor2, nr2, cr2, rfl, rr2, b6⟩
  obtain ⟨_, _, kr2, _⟩ := id rr2
  cases kr2
  clear C6
  have Ra6 : Hid (Row encP 2 w6 _ a) := Ra5.out.below b6
  have Rb6 : Hid (Row encP 2 w6 _ b) := Rb5.out.below b6
  have B6 : Hid (Below w.heap.size w w6) := B5.out.trans (b6.mono B5.out.size)
  clear Ra5 Rb5 B5
  clear b6
  have Rr26 : Hid (Row encP 2 w6 _ (mnL a b)) := rr2
  clear rr2
  have C7 : Hid (Calls Try.prog 20 #[.slice aor2 (mnL a b).length cr2, .int .i64 n] w6 fun e w' => e = .returned (.bool false) ∧ Below w6.heap.size w6 w') := has_is _ (mnL a b) n false w6 Rr26.out (by have := mnL_length a b; omega) E2.out
  go_wp2_with fail
  refine Calls.mono C7.out ?_
  rintro e w7 ⟨rfl, b7⟩
  clear C7
  have Ra7 : Hid (Row encP 2 w7 _ a) := Ra6.out.below b7
  have Rb7 : Hid (Row encP 2 w7 _ b) := Rb6.out.below b7
  have Rr27 : Hid (Row encP 2 w7 _ (mnL a b)) := Rr26.out.below b7
  have B7 : Hid (Below w.heap.size w w7) := B6.out.trans (b7.mono B6.out.size)
  clear Ra6 Rb6 Rr26 B6
  clear b7
  clear Rr27
  have C8 : Hid (Calls Try.prog 16 #[.slice aoa a.length capa, .slice aob b.length capb] w7 (Gives w7 (meL a b))) := by
    show Calls _ _ _ _ _
    have := meet_g _ _ a b w7 Ra7.out Rb7.out (by omega)
    exact this
  go_wp2_with fail
  refine Calls.mono C8.out ?_
  rintro e w8 ⟨aor3, nr3, cr3, rfl, rr3, b8⟩
  obtain ⟨_, _, kr3, _⟩ := id rr3
  cases kr3
  clear C8
  have Ra8 : Hid (Row encP 2 w8 _ a) := Ra7.out.below b8
  have Rb8 : Hid (Row encP 2 w8 _ b) := Rb7.out.below b8
  have B8 : Hid (Below w.heap.size w w8) := B7.out.trans (b8.mono B7.out.size)
  clear Ra7 Rb7 B7
  clear b8
  have Rr38 : Hid (Row encP 2 w8 _ (meL a b)) := rr3
  clear rr3
  have C9 : Hid (Calls Try.prog 20 #[.slice aor3 (meL a b).length cr3, .int .i64 n] w8 fun e w' => e = .returned (.bool false) ∧ Below w8.heap.size w8 w') := has_is _ (meL a b) n false w8 Rr38.out (by have := meL_length a b; omega) E3.out
  go_wp2_with fail
  refine Calls.mono C9.out ?_
  rintro e w9 ⟨rfl, b9⟩
  clear C9
  have Ra9 : Hid (Row encP 2 w9 _ a) := Ra8.out.below b9
  have Rb9 : Hid (Row encP 2 w9 _ b) := Rb8.out.below b9
  have Rr39 : Hid (Row encP 2 w9 _ (meL a b)) := Rr38.out.below b9
  have B9 : Hid (Below w.heap.size w w9) := B8.out.trans (b9.mono B8.out.size)
  clear Ra8 Rb8 Rr38 B8
  clear b9
  clear Rr39
  have C10 : Hid (Calls Try.prog 17 #[.slice aoa a.length capa, .int .i64 m] w9 (Gives w9 (unL a [(m, m)]))) := by
    show Calls _ _ _ _ _
    have := add_g _ a m w9 Ra9.out (by omega)
    exact this
  go_wp2_with fail
  refine Calls.mono C10.out ?_
  rintro e w10 ⟨aor4, nr4, cr4, rfl, rr4, b10⟩
  obtain ⟨_, _, kr4, _⟩ := id rr4
  cases kr4
  clear C10
  have Ra10 : Hid (Row encP 2 w10 _ a) := Ra9.out.below b10
  have Rb10 : Hid (Row encP 2 w10 _ b) := Rb9.out.below b10
  have B10 : Hid (Below w.heap.size w w10) := B9.out.trans (b10.mono B9.out.size)
  clear Ra9 Rb9 B9
  clear b10
  have Rr410 : Hid (Row encP 2 w10 _ (unL a [(m, m)])) := rr4
  clear rr4
  have C11 : Hid (Calls Try.prog 20 #[.slice aor4 (unL a [(m, m)]).length cr4, .int .i64 n] w10 fun e w' => e = .returned (.bool false) ∧ Below w10.heap.size w10 w') := has_is _ (unL a [(m, m)]) n false w10 Rr410.out (by have := len_one m; have := unL_length a [(m, m)]; omega) E4.out
  go_wp2_with fail
  refine Calls.mono C11.out ?_
  rintro e w11 ⟨rfl, b11⟩
  clear C11
  have Ra11 : Hid (Row encP 2 w11 _ a) := Ra10.out.below b11
  have Rb11 : Hid (Row encP 2 w11 _ b) := Rb10.out.below b11
  have Rr411 : Hid (Row encP 2 w11 _ (unL a [(m, m)])) := Rr410.out.below b11
  have B11 : Hid (Below w.heap.size w w11) := B10.out.trans (b11.mono B10.out.size)
  clear Ra10 Rb10 Rr410 B10
  clear b11
  clear Rr411
  have C12 : Hid (Calls Try.prog 18 #[.slice aoa a.length capa, .int .i64 m] w11 (Gives w11 (mnL a [(m, m)]))) := by
    show Calls _ _ _ _ _
    have := remove_g _ a m w11 Ra11.out (by omega)
    exact this
  go_wp2_with fail
  refine Calls.mono C12.out ?_
  rintro e w12 ⟨aor5, nr5, cr5, rfl, rr5, b12⟩
  obtain ⟨_, _, kr5, _⟩ := id rr5
  cases kr5
  clear C12
  have Ra12 : Hid (Row encP 2 w12 _ a) := Ra11.out.below b12
  have Rb12 : Hid (Row encP 2 w12 _ b) := Rb11.out.below b12
  have B12 : Hid (Below w.heap.size w w12) := B11.out.trans (b12.mono B11.out.size)
  clear Ra11 Rb11 B11
  clear b12
  have Rr512 : Hid (Row encP 2 w12 _ (mnL a [(m, m)])) := rr5
  clear rr5
  have C13 : Hid (Calls Try.prog 20 #[.slice aor5 (mnL a [(m, m)]).length cr5, .int .i64 n] w12 fun e w' => e = .returned (.bool false) ∧ Below w12.heap.size w12 w') := has_is _ (mnL a [(m, m)]) n false w12 Rr512.out (by have := len_one m; have := mnL_length a [(m, m)]; omega) E5.out
  go_wp2_with fail
  refine Calls.mono C13.out ?_
  rintro e w13 ⟨rfl, b13⟩
  clear C13
  have Ra13 : Hid (Row encP 2 w13 _ a) := Ra12.out.below b13
  have Rb13 : Hid (Row encP 2 w13 _ b) := Rb12.out.below b13
  have Rr513 : Hid (Row encP 2 w13 _ (mnL a [(m, m)])) := Rr512.out.below b13
  have B13 : Hid (Below w.heap.size w w13) := B12.out.trans (b13.mono B12.out.size)
  clear Ra12 Rb12 Rr512 B12
  clear b13
  clear Rr513
  have C14 : Hid (Calls Try.prog 13 #[.slice aoa a.length capa, .slice aob b.length capb] w13 (Gives w13 (unL a b))) := by
    show Calls _ _ _ _ _
    have := union_g _ _ a b w13 Ra13.out Rb13.out (by omega)
    exact this
  go_wp2_with fail
  refine Calls.mono C14.out ?_
  rintro e w14 ⟨aor6, nr6, cr6, rfl, rr6, b14⟩
  obtain ⟨_, _, kr6, _⟩ := id rr6
  cases kr6
  clear C14
  have Ra14 : Hid (Row encP 2 w14 _ a) := Ra13.out.below b14
  have Rb14 : Hid (Row encP 2 w14 _ b) := Rb13.out.below b14
  have B14 : Hid (Below w.heap.size w w14) := B13.out.trans (b14.mono B13.out.size)
  clear Ra13 Rb13 B13
  clear b14
  have Rr614 : Hid (Row encP 2 w14 _ (unL a b)) := rr6
  clear rr6
  have C15 : Hid (Calls Try.prog 22 #[.slice aor6 (unL a b).length cr6] w14 fun e w' => e = .returned (.int .i64 cu) ∧ Below w14.heap.size w14 w') := by show Calls _ _ _ _ _; have := count_cn _ _ w14 Rr614.out (unL_cn a b) (by have := unL_length a b; omega); rw [Hcu.out] at this; exact this
  go_wp2_with fail
  refine Calls.mono C15.out ?_
  rintro e w15 ⟨rfl, b15⟩
  clear C15
  have Ra15 : Hid (Row encP 2 w15 _ a) := Ra14.out.below b15
  have Rb15 : Hid (Row encP 2 w15 _ b) := Rb14.out.below b15
  have Rr615 : Hid (Row encP 2 w15 _ (unL a b)) := Rr614.out.below b15
  have B15 : Hid (Below w.heap.size w w15) := B14.out.trans (b15.mono B14.out.size)
  clear Ra14 Rb14 Rr614 B14
  clear b15
  clear Rr615
  have C16 : Hid (Calls Try.prog 16 #[.slice aoa a.length capa, .slice aob b.length capb] w15 (Gives w15 (meL a b))) := by
    show Calls _ _ _ _ _
    have := meet_g _ _ a b w15 Ra15.out Rb15.out (by omega)
    exact this
  go_wp2_with fail
  refine Calls.mono C16.out ?_
  rintro e w16 ⟨aor7, nr7, cr7, rfl, rr7, b16⟩
  obtain ⟨_, _, kr7, _⟩ := id rr7
  cases kr7
  clear C16
  have Ra16 : Hid (Row encP 2 w16 _ a) := Ra15.out.below b16
  have Rb16 : Hid (Row encP 2 w16 _ b) := Rb15.out.below b16
  have B16 : Hid (Below w.heap.size w w16) := B15.out.trans (b16.mono B15.out.size)
  clear Ra15 Rb15 B15
  clear b16
  have Rr716 : Hid (Row encP 2 w16 _ (meL a b)) := rr7
  clear rr7
  have C17 : Hid (Calls Try.prog 22 #[.slice aor7 (meL a b).length cr7] w16 fun e w' => e = .returned (.int .i64 cm) ∧ Below w16.heap.size w16 w') := by show Calls _ _ _ _ _; have := count_cn _ _ w16 Rr716.out (meL_cn a b) (by have := meL_length a b; omega); rw [Hcm.out] at this; exact this
  go_wp2_with fail
  refine Calls.mono C17.out ?_
  rintro e w17 ⟨rfl, b17⟩
  clear C17
  have Ra17 : Hid (Row encP 2 w17 _ a) := Ra16.out.below b17
  have Rb17 : Hid (Row encP 2 w17 _ b) := Rb16.out.below b17
  have Rr717 : Hid (Row encP 2 w17 _ (meL a b)) := Rr716.out.below b17
  have B17 : Hid (Below w.heap.size w w17) := B16.out.trans (b17.mono B16.out.size)
  clear Ra16 Rb16 Rr716 B16
  clear b17
  clear Rr717
  have C18 : Hid (Calls Try.prog 22 #[.slice aoa a.length capa] w17 fun e w' => e = .returned (.int .i64 ca) ∧ Below w17.heap.size w17 w') := by show Calls _ _ _ _ _; have := count_any _ _ w17 Ra17.out (by omega); rw [Hca.out] at this; exact this
  go_wp2_with fail
  refine Calls.mono C18.out ?_
  rintro e w18 ⟨rfl, b18⟩
  clear C18
  have Ra18 : Hid (Row encP 2 w18 _ a) := Ra17.out.below b18
  have Rb18 : Hid (Row encP 2 w18 _ b) := Rb17.out.below b18
  have B18 : Hid (Below w.heap.size w w18) := B17.out.trans (b18.mono B17.out.size)
  clear Ra17 Rb17 B17
  clear b18
  have C19 : Hid (Calls Try.prog 22 #[.slice aob b.length capb] w18 fun e w' => e = .returned (.int .i64 cb) ∧ Below w18.heap.size w18 w') := by show Calls _ _ _ _ _; have := count_any _ _ w18 Rb18.out (by omega); rw [Hcb.out] at this; exact this
  go_wp2_with fail
  refine Calls.mono C19.out ?_
  rintro e w19 ⟨rfl, b19⟩
  clear C19
  have Ra19 : Hid (Row encP 2 w19 _ a) := Ra18.out.below b19
  have Rb19 : Hid (Row encP 2 w19 _ b) := Rb18.out.below b19
  have B19 : Hid (Below w.heap.size w w19) := B18.out.trans (b19.mono B18.out.size)
  clear Ra18 Rb18 B18
  clear b19
  go_wp2
  go_ret
  exact ⟨rfl, B19.out⟩

set_option maxRecDepth 100000 in
set_option maxHeartbeats 4000000 in
theorem logic.c8 (va : Value) (a : List Pr) (vb : Value) (b : List Pr) (n : Int) (m : Int) (w : World) (ha : Row encP 2 w va a) (hb : Row encP 2 w vb b) (la : a.length ≤ 40) (lb : b.length ≤ 40) (hx : hasB a n = false) (hy : hasB b n = false) (t0 : ¬ 0 ≤ n) (he : n = m) : Calls Try.prog 5 #[va, vb, .int .i64 n, .int .i64 m] w fun e w' => e = .returned (.bool true) ∧ Below w.heap.size w w' := by
  have HX : Hid (hasB a n = false) := hx
  have HY : Hid (hasB b n = false) := hy
  have E1 : Hid (hasB (unL a b) n = false) := by show _ = _; rw [has_un, hx, hy]; rfl
  have E2 : Hid (hasB (mnL a b) n = false) := by show _ = _; rw [has_mn, hx, hy]; rfl
  have E3 : Hid (hasB (meL a b) n = false) := by show _ = _; rw [has_me, hx, hy]; rfl
  have E4 : Hid (hasB (unL a [(m, m)]) n = false) := by show _ = _; rw [has_un, hx, has_one]; simp only [Bool.false_or]; exact decide_eq_false (by omega)
  have E5 : Hid (hasB (mnL a [(m, m)]) n = false) := by show _ = _; rw [has_mn, hx, has_one]; rfl
  have CE : Hid (cntL (unL a b) + cntL (meL a b) = cntL (nmL a) + cntL (nmL b)) := cnt_un_me a b
  have cb1 := cnt_le (unL_cn a b)
  have cb2 := cnt_le (meL_cn a b)
  have cb3 := cnt_le (nmL_cn a)
  have cb4 := cnt_le (nmL_cn b)
  obtain ⟨cu, hcu⟩ : ∃ k, cntL (unL a b) = k := ⟨_, rfl⟩
  obtain ⟨cm, hcm⟩ : ∃ k, cntL (meL a b) = k := ⟨_, rfl⟩
  obtain ⟨ca, hca⟩ : ∃ k, cntL (nmL a) = k := ⟨_, rfl⟩
  obtain ⟨cb, hcb⟩ : ∃ k, cntL (nmL b) = k := ⟨_, rfl⟩
  rw [hcu] at cb1
  rw [hcm] at cb2
  rw [hca] at cb3
  rw [hcb] at cb4
  rw [hcu, hcm, hca, hcb] at CE
  have Hcu : Hid _ := hcu
  have Hcm : Hid _ := hcm
  have Hca : Hid _ := hca
  have Hcb : Hid _ := hcb
  clear hcu hcm hca hcb
  have w1e : wrap64 (cu + cm) = cu + cm := w64 (by omega) (by omega)
  have w2e : wrap64 (ca + cb) = ca + cb := w64 (by omega) (by omega)
  have ceq : (cu + cm == ca + cb) = true := beq_iff_eq.2 CE.out
  have ne1 : (n == m) = true := beq_iff_eq.2 he
  have ne2 : (n != m) = false := by unfold bne; rw [ne1]; rfl
  clear hx hy he CE
  have Ra0 : Hid (Row encP 2 w va a) := ha
  obtain ⟨aoa, capa, rfl, _⟩ := id ha
  have Rb0 : Hid (Row encP 2 w vb b) := hb
  obtain ⟨aob, capb, rfl, _⟩ := id hb
  clear ha hb
  have B0 : Hid (Below w.heap.size w w) := Below.refl _ _
  have ia : ¬ (40 : Int) < (a.length : Int) := by omega
  have ib : ¬ (40 : Int) < (b.length : Int) := by omega
  go_enter Try.func5, Try.ntmps5
  have C1 : Hid (Calls Try.prog 9 #[] w fun e w' => e = .returned (.bool true) ∧ Below w.heap.size w w') := works_any w
  go_wp2_with fail
  refine Calls.mono C1.out ?_
  rintro e w1 ⟨rfl, b1⟩
  clear C1
  have Ra1 : Hid (Row encP 2 w1 _ a) := Ra0.out.below b1
  have Rb1 : Hid (Row encP 2 w1 _ b) := Rb0.out.below b1
  have B1 : Hid (Below w.heap.size w w1) := B0.out.trans (b1.mono B0.out.size)
  clear Ra0 Rb0 B0
  clear b1
  have C2 : Hid (Calls Try.prog 20 #[.slice aoa a.length capa, .int .i64 n] w1 fun e w' => e = .returned (.bool false) ∧ Below w1.heap.size w1 w') := has_is _ a n false w1 Ra1.out (by omega) HX.out
  go_wp2_with fail
  refine Calls.mono C2.out ?_
  rintro e w2 ⟨rfl, b2⟩
  clear C2
  have Ra2 : Hid (Row encP 2 w2 _ a) := Ra1.out.below b2
  have Rb2 : Hid (Row encP 2 w2 _ b) := Rb1.out.below b2
  have B2 : Hid (Below w.heap.size w w2) := B1.out.trans (b2.mono B1.out.size)
  clear Ra1 Rb1 B1
  clear b2
  have C3 : Hid (Calls Try.prog 20 #[.slice aob b.length capb, .int .i64 n] w2 fun e w' => e = .returned (.bool false) ∧ Below w2.heap.size w2 w') := has_is _ b n false w2 Rb2.out (by omega) HY.out
  go_wp2_with fail
  refine Calls.mono C3.out ?_
  rintro e w3 ⟨rfl, b3⟩
  clear C3
  have Ra3 : Hid (Row encP 2 w3 _ a) := Ra2.out.below b3
  have Rb3 : Hid (Row encP 2 w3 _ b) := Rb2.out.below b3
  have B3 : Hid (Below w.heap.size w w3) := B2.out.trans (b3.mono B2.out.size)
  clear Ra2 Rb2 B2
  clear b3
  have C4 : Hid (Calls Try.prog 13 #[.slice aoa a.length capa, .slice aob b.length capb] w3 (Gives w3 (unL a b))) := by
    show Calls _ _ _ _ _
    have := union_g _ _ a b w3 Ra3.out Rb3.out (by omega)
    exact this
  go_wp2_with fail
  refine Calls.mono C4.out ?_
  rintro e w4 ⟨aor1, nr1, cr1, rfl, rr1, b4⟩
  obtain ⟨_, _, kr1, _⟩ := id rr1
  cases kr1
  clear C4
  have Ra4 : Hid (Row encP 2 w4 _ a) := Ra3.out.below b4
  have Rb4 : Hid (Row encP 2 w4 _ b) := Rb3.out.below b4
  have B4 : Hid (Below w.heap.size w w4) := B3.out.trans (b4.mono B3.out.size)
  clear Ra3 Rb3 B3
  clear b4
  have Rr14 : Hid (Row encP 2 w4 _ (unL a b)) := rr1
  clear rr1
  have C5 : Hid (Calls Try.prog 20 #[.slice aor1 (unL a b).length cr1, .int .i64 n] w4 fun e w' => e = .returned (.bool false) ∧ Below w4.heap.size w4 w') := has_is _ (unL a b) n false w4 Rr14.out (by have := unL_length a b; omega) E1.out
  go_wp2_with fail
  refine Calls.mono C5.out ?_
  rintro e w5 ⟨rfl, b5⟩
  clear C5
  have Ra5 : Hid (Row encP 2 w5 _ a) := Ra4.out.below b5
  have Rb5 : Hid (Row encP 2 w5 _ b) := Rb4.out.below b5
  have Rr15 : Hid (Row encP 2 w5 _ (unL a b)) := Rr14.out.below b5
  have B5 : Hid (Below w.heap.size w w5) := B4.out.trans (b5.mono B4.out.size)
  clear Ra4 Rb4 Rr14 B4
  clear b5
  clear Rr15
  have C6 : Hid (Calls Try.prog 15 #[.slice aoa a.length capa, .slice aob b.length capb] w5 (Gives w5 (mnL a b))) := by
    show Calls _ _ _ _ _
    have := minus_g _ _ a b w5 Ra5.out Rb5.out (by omega)
    exact this
  go_wp2_with fail
  refine Calls.mono C6.out ?_
  rintro e w6 ⟨aor2, nr2, cr2, rfl, rr2, b6⟩
  obtain ⟨_, _, kr2, _⟩ := id rr2
  cases kr2
  clear C6
  have Ra6 : Hid (Row encP 2 w6 _ a) := Ra5.out.below b6
  have Rb6 : Hid (Row encP 2 w6 _ b) := Rb5.out.below b6
  have B6 : Hid (Below w.heap.size w w6) := B5.out.trans (b6.mono B5.out.size)
  clear Ra5 Rb5 B5
  clear b6
  have Rr26 : Hid (Row encP 2 w6 _ (mnL a b)) := rr2
  clear rr2
  have C7 : Hid (Calls Try.prog 20 #[.slice aor2 (mnL a b).length cr2, .int .i64 n] w6 fun e w' => e = .returned (.bool false) ∧ Below w6.heap.size w6 w') := has_is _ (mnL a b) n false w6 Rr26.out (by have := mnL_length a b; omega) E2.out
  go_wp2_with fail
  refine Calls.mono C7.out ?_
  rintro e w7 ⟨rfl, b7⟩
  clear C7
  have Ra7 : Hid (Row encP 2 w7 _ a) := Ra6.out.below b7
  have Rb7 : Hid (Row encP 2 w7 _ b) := Rb6.out.below b7
  have Rr27 : Hid (Row encP 2 w7 _ (mnL a b)) := Rr26.out.below b7
  have B7 : Hid (Below w.heap.size w w7) := B6.out.trans (b7.mono B6.out.size)
  clear Ra6 Rb6 Rr26 B6
  clear b7
  clear Rr27
  have C8 : Hid (Calls Try.prog 16 #[.slice aoa a.length capa, .slice aob b.length capb] w7 (Gives w7 (meL a b))) := by
    show Calls _ _ _ _ _
    have := meet_g _ _ a b w7 Ra7.out Rb7.out (by omega)
    exact this
  go_wp2_with fail
  refine Calls.mono C8.out ?_
  rintro e w8 ⟨aor3, nr3, cr3, rfl, rr3, b8⟩
  obtain ⟨_, _, kr3, _⟩ := id rr3
  cases kr3
  clear C8
  have Ra8 : Hid (Row encP 2 w8 _ a) := Ra7.out.below b8
  have Rb8 : Hid (Row encP 2 w8 _ b) := Rb7.out.below b8
  have B8 : Hid (Below w.heap.size w w8) := B7.out.trans (b8.mono B7.out.size)
  clear Ra7 Rb7 B7
  clear b8
  have Rr38 : Hid (Row encP 2 w8 _ (meL a b)) := rr3
  clear rr3
  have C9 : Hid (Calls Try.prog 20 #[.slice aor3 (meL a b).length cr3, .int .i64 n] w8 fun e w' => e = .returned (.bool false) ∧ Below w8.heap.size w8 w') := has_is _ (meL a b) n false w8 Rr38.out (by have := meL_length a b; omega) E3.out
  go_wp2_with fail
  refine Calls.mono C9.out ?_
  rintro e w9 ⟨rfl, b9⟩
  clear C9
  have Ra9 : Hid (Row encP 2 w9 _ a) := Ra8.out.below b9
  have Rb9 : Hid (Row encP 2 w9 _ b) := Rb8.out.below b9
  have Rr39 : Hid (Row encP 2 w9 _ (meL a b)) := Rr38.out.below b9
  have B9 : Hid (Below w.heap.size w w9) := B8.out.trans (b9.mono B8.out.size)
  clear Ra8 Rb8 Rr38 B8
  clear b9
  clear Rr39
  have C10 : Hid (Calls Try.prog 17 #[.slice aoa a.length capa, .int .i64 m] w9 (Gives w9 (unL a [(m, m)]))) := by
    show Calls _ _ _ _ _
    have := add_g _ a m w9 Ra9.out (by omega)
    exact this
  go_wp2_with fail
  refine Calls.mono C10.out ?_
  rintro e w10 ⟨aor4, nr4, cr4, rfl, rr4, b10⟩
  obtain ⟨_, _, kr4, _⟩ := id rr4
  cases kr4
  clear C10
  have Ra10 : Hid (Row encP 2 w10 _ a) := Ra9.out.below b10
  have Rb10 : Hid (Row encP 2 w10 _ b) := Rb9.out.below b10
  have B10 : Hid (Below w.heap.size w w10) := B9.out.trans (b10.mono B9.out.size)
  clear Ra9 Rb9 B9
  clear b10
  have Rr410 : Hid (Row encP 2 w10 _ (unL a [(m, m)])) := rr4
  clear rr4
  have C11 : Hid (Calls Try.prog 20 #[.slice aor4 (unL a [(m, m)]).length cr4, .int .i64 n] w10 fun e w' => e = .returned (.bool false) ∧ Below w10.heap.size w10 w') := has_is _ (unL a [(m, m)]) n false w10 Rr410.out (by have := len_one m; have := unL_length a [(m, m)]; omega) E4.out
  go_wp2_with fail
  refine Calls.mono C11.out ?_
  rintro e w11 ⟨rfl, b11⟩
  clear C11
  have Ra11 : Hid (Row encP 2 w11 _ a) := Ra10.out.below b11
  have Rb11 : Hid (Row encP 2 w11 _ b) := Rb10.out.below b11
  have Rr411 : Hid (Row encP 2 w11 _ (unL a [(m, m)])) := Rr410.out.below b11
  have B11 : Hid (Below w.heap.size w w11) := B10.out.trans (b11.mono B10.out.size)
  clear Ra10 Rb10 Rr410 B10
  clear b11
  clear Rr411
  have C12 : Hid (Calls Try.prog 18 #[.slice aoa a.length capa, .int .i64 m] w11 (Gives w11 (mnL a [(m, m)]))) := by
    show Calls _ _ _ _ _
    have := remove_g _ a m w11 Ra11.out (by omega)
    exact this
  go_wp2_with fail
  refine Calls.mono C12.out ?_
  rintro e w12 ⟨aor5, nr5, cr5, rfl, rr5, b12⟩
  obtain ⟨_, _, kr5, _⟩ := id rr5
  cases kr5
  clear C12
  have Ra12 : Hid (Row encP 2 w12 _ a) := Ra11.out.below b12
  have Rb12 : Hid (Row encP 2 w12 _ b) := Rb11.out.below b12
  have B12 : Hid (Below w.heap.size w w12) := B11.out.trans (b12.mono B11.out.size)
  clear Ra11 Rb11 B11
  clear b12
  have Rr512 : Hid (Row encP 2 w12 _ (mnL a [(m, m)])) := rr5
  clear rr5
  have C13 : Hid (Calls Try.prog 20 #[.slice aor5 (mnL a [(m, m)]).length cr5, .int .i64 n] w12 fun e w' => e = .returned (.bool false) ∧ Below w12.heap.size w12 w') := has_is _ (mnL a [(m, m)]) n false w12 Rr512.out (by have := len_one m; have := mnL_length a [(m, m)]; omega) E5.out
  go_wp2_with fail
  refine Calls.mono C13.out ?_
  rintro e w13 ⟨rfl, b13⟩
  clear C13
  have Ra13 : Hid (Row encP 2 w13 _ a) := Ra12.out.below b13
  have Rb13 : Hid (Row encP 2 w13 _ b) := Rb12.out.below b13
  have Rr513 : Hid (Row encP 2 w13 _ (mnL a [(m, m)])) := Rr512.out.below b13
  have B13 : Hid (Below w.heap.size w w13) := B12.out.trans (b13.mono B12.out.size)
  clear Ra12 Rb12 Rr512 B12
  clear b13
  clear Rr513
  have C14 : Hid (Calls Try.prog 13 #[.slice aoa a.length capa, .slice aob b.length capb] w13 (Gives w13 (unL a b))) := by
    show Calls _ _ _ _ _
    have := union_g _ _ a b w13 Ra13.out Rb13.out (by omega)
    exact this
  go_wp2_with fail
  refine Calls.mono C14.out ?_
  rintro e w14 ⟨aor6, nr6, cr6, rfl, rr6, b14⟩
  obtain ⟨_, _, kr6, _⟩ := id rr6
  cases kr6
  clear C14
  have Ra14 : Hid (Row encP 2 w14 _ a) := Ra13.out.below b14
  have Rb14 : Hid (Row encP 2 w14 _ b) := Rb13.out.below b14
  have B14 : Hid (Below w.heap.size w w14) := B13.out.trans (b14.mono B13.out.size)
  clear Ra13 Rb13 B13
  clear b14
  have Rr614 : Hid (Row encP 2 w14 _ (unL a b)) := rr6
  clear rr6
  have C15 : Hid (Calls Try.prog 22 #[.slice aor6 (unL a b).length cr6] w14 fun e w' => e = .returned (.int .i64 cu) ∧ Below w14.heap.size w14 w') := by show Calls _ _ _ _ _; have := count_cn _ _ w14 Rr614.out (unL_cn a b) (by have := unL_length a b; omega); rw [Hcu.out] at this; exact this
  go_wp2_with fail
  refine Calls.mono C15.out ?_
  rintro e w15 ⟨rfl, b15⟩
  clear C15
  have Ra15 : Hid (Row encP 2 w15 _ a) := Ra14.out.below b15
  have Rb15 : Hid (Row encP 2 w15 _ b) := Rb14.out.below b15
  have Rr615 : Hid (Row encP 2 w15 _ (unL a b)) := Rr614.out.below b15
  have B15 : Hid (Below w.heap.size w w15) := B14.out.trans (b15.mono B14.out.size)
  clear Ra14 Rb14 Rr614 B14
  clear b15
  clear Rr615
  have C16 : Hid (Calls Try.prog 16 #[.slice aoa a.length capa, .slice aob b.length capb] w15 (Gives w15 (meL a b))) := by
    show Calls _ _ _ _ _
    have := meet_g _ _ a b w15 Ra15.out Rb15.out (by omega)
    exact this
  go_wp2_with fail
  refine Calls.mono C16.out ?_
  rintro e w16 ⟨aor7, nr7, cr7, rfl, rr7, b16⟩
  obtain ⟨_, _, kr7, _⟩ := id rr7
  cases kr7
  clear C16
  have Ra16 : Hid (Row encP 2 w16 _ a) := Ra15.out.below b16
  have Rb16 : Hid (Row encP 2 w16 _ b) := Rb15.out.below b16
  have B16 : Hid (Below w.heap.size w w16) := B15.out.trans (b16.mono B15.out.size)
  clear Ra15 Rb15 B15
  clear b16
  have Rr716 : Hid (Row encP 2 w16 _ (meL a b)) := rr7
  clear rr7
  have C17 : Hid (Calls Try.prog 22 #[.slice aor7 (meL a b).length cr7] w16 fun e w' => e = .returned (.int .i64 cm) ∧ Below w16.heap.size w16 w') := by show Calls _ _ _ _ _; have := count_cn _ _ w16 Rr716.out (meL_cn a b) (by have := meL_length a b; omega); rw [Hcm.out] at this; exact this
  go_wp2_with fail
  refine Calls.mono C17.out ?_
  rintro e w17 ⟨rfl, b17⟩
  clear C17
  have Ra17 : Hid (Row encP 2 w17 _ a) := Ra16.out.below b17
  have Rb17 : Hid (Row encP 2 w17 _ b) := Rb16.out.below b17
  have Rr717 : Hid (Row encP 2 w17 _ (meL a b)) := Rr716.out.below b17
  have B17 : Hid (Below w.heap.size w w17) := B16.out.trans (b17.mono B16.out.size)
  clear Ra16 Rb16 Rr716 B16
  clear b17
  clear Rr717
  have C18 : Hid (Calls Try.prog 22 #[.slice aoa a.length capa] w17 fun e w' => e = .returned (.int .i64 ca) ∧ Below w17.heap.size w17 w') := by show Calls _ _ _ _ _; have := count_any _ _ w17 Ra17.out (by omega); rw [Hca.out] at this; exact this
  go_wp2_with fail
  refine Calls.mono C18.out ?_
  rintro e w18 ⟨rfl, b18⟩
  clear C18
  have Ra18 : Hid (Row encP 2 w18 _ a) := Ra17.out.below b18
  have Rb18 : Hid (Row encP 2 w18 _ b) := Rb17.out.below b18
  have B18 : Hid (Below w.heap.size w w18) := B17.out.trans (b18.mono B17.out.size)
  clear Ra17 Rb17 B17
  clear b18
  have C19 : Hid (Calls Try.prog 22 #[.slice aob b.length capb] w18 fun e w' => e = .returned (.int .i64 cb) ∧ Below w18.heap.size w18 w') := by show Calls _ _ _ _ _; have := count_any _ _ w18 Rb18.out (by omega); rw [Hcb.out] at this; exact this
  go_wp2_with fail
  refine Calls.mono C19.out ?_
  rintro e w19 ⟨rfl, b19⟩
  clear C19
  have Ra19 : Hid (Row encP 2 w19 _ a) := Ra18.out.below b19
  have Rb19 : Hid (Row encP 2 w19 _ b) := Rb18.out.below b19
  have B19 : Hid (Below w.heap.size w w19) := B18.out.trans (b19.mono B18.out.size)
  clear Ra18 Rb18 B18
  clear b19
  go_wp2
  go_ret
  exact ⟨rfl, B19.out⟩

set_option maxRecDepth 100000 in
set_option maxHeartbeats 4000000 in
theorem logic.c9 (va : Value) (a : List Pr) (vb : Value) (b : List Pr) (n : Int) (m : Int) (w : World) (ha : Row encP 2 w va a) (hb : Row encP 2 w vb b) (la : a.length ≤ 40) (lb : b.length ≤ 40) (hx : hasB a n = false) (hy : hasB b n = false) (t0 : ¬ 0 ≤ n) (he : n ≠ m) : Calls Try.prog 5 #[va, vb, .int .i64 n, .int .i64 m] w fun e w' => e = .returned (.bool true) ∧ Below w.heap.size w w' := by
  have HX : Hid (hasB a n = false) := hx
  have HY : Hid (hasB b n = false) := hy
  have E1 : Hid (hasB (unL a b) n = false) := by show _ = _; rw [has_un, hx, hy]; rfl
  have E2 : Hid (hasB (mnL a b) n = false) := by show _ = _; rw [has_mn, hx, hy]; rfl
  have E3 : Hid (hasB (meL a b) n = false) := by show _ = _; rw [has_me, hx, hy]; rfl
  have E4 : Hid (hasB (unL a [(m, m)]) n = false) := by show _ = _; rw [has_un, hx, has_one]; simp only [Bool.false_or]; exact decide_eq_false (by omega)
  have E5 : Hid (hasB (mnL a [(m, m)]) n = false) := by show _ = _; rw [has_mn, hx, has_one]; rfl
  have CE : Hid (cntL (unL a b) + cntL (meL a b) = cntL (nmL a) + cntL (nmL b)) := cnt_un_me a b
  have cb1 := cnt_le (unL_cn a b)
  have cb2 := cnt_le (meL_cn a b)
  have cb3 := cnt_le (nmL_cn a)
  have cb4 := cnt_le (nmL_cn b)
  obtain ⟨cu, hcu⟩ : ∃ k, cntL (unL a b) = k := ⟨_, rfl⟩
  obtain ⟨cm, hcm⟩ : ∃ k, cntL (meL a b) = k := ⟨_, rfl⟩
  obtain ⟨ca, hca⟩ : ∃ k, cntL (nmL a) = k := ⟨_, rfl⟩
  obtain ⟨cb, hcb⟩ : ∃ k, cntL (nmL b) = k := ⟨_, rfl⟩
  rw [hcu] at cb1
  rw [hcm] at cb2
  rw [hca] at cb3
  rw [hcb] at cb4
  rw [hcu, hcm, hca, hcb] at CE
  have Hcu : Hid _ := hcu
  have Hcm : Hid _ := hcm
  have Hca : Hid _ := hca
  have Hcb : Hid _ := hcb
  clear hcu hcm hca hcb
  have w1e : wrap64 (cu + cm) = cu + cm := w64 (by omega) (by omega)
  have w2e : wrap64 (ca + cb) = ca + cb := w64 (by omega) (by omega)
  have ceq : (cu + cm == ca + cb) = true := beq_iff_eq.2 CE.out
  have ne1 : (n == m) = false := beq_eq_false_iff_ne.2 he
  have ne2 : (n != m) = true := by unfold bne; rw [ne1]; rfl
  clear hx hy he CE
  have Ra0 : Hid (Row encP 2 w va a) := ha
  obtain ⟨aoa, capa, rfl, _⟩ := id ha
  have Rb0 : Hid (Row encP 2 w vb b) := hb
  obtain ⟨aob, capb, rfl, _⟩ := id hb
  clear ha hb
  have B0 : Hid (Below w.heap.size w w) := Below.refl _ _
  have ia : ¬ (40 : Int) < (a.length : Int) := by omega
  have ib : ¬ (40 : Int) < (b.length : Int) := by omega
  go_enter Try.func5, Try.ntmps5
  have C1 : Hid (Calls Try.prog 9 #[] w fun e w' => e = .returned (.bool true) ∧ Below w.heap.size w w') := works_any w
  go_wp2_with fail
  refine Calls.mono C1.out ?_
  rintro e w1 ⟨rfl, b1⟩
  clear C1
  have Ra1 : Hid (Row encP 2 w1 _ a) := Ra0.out.below b1
  have Rb1 : Hid (Row encP 2 w1 _ b) := Rb0.out.below b1
  have B1 : Hid (Below w.heap.size w w1) := B0.out.trans (b1.mono B0.out.size)
  clear Ra0 Rb0 B0
  clear b1
  have C2 : Hid (Calls Try.prog 20 #[.slice aoa a.length capa, .int .i64 n] w1 fun e w' => e = .returned (.bool false) ∧ Below w1.heap.size w1 w') := has_is _ a n false w1 Ra1.out (by omega) HX.out
  go_wp2_with fail
  refine Calls.mono C2.out ?_
  rintro e w2 ⟨rfl, b2⟩
  clear C2
  have Ra2 : Hid (Row encP 2 w2 _ a) := Ra1.out.below b2
  have Rb2 : Hid (Row encP 2 w2 _ b) := Rb1.out.below b2
  have B2 : Hid (Below w.heap.size w w2) := B1.out.trans (b2.mono B1.out.size)
  clear Ra1 Rb1 B1
  clear b2
  have C3 : Hid (Calls Try.prog 20 #[.slice aob b.length capb, .int .i64 n] w2 fun e w' => e = .returned (.bool false) ∧ Below w2.heap.size w2 w') := has_is _ b n false w2 Rb2.out (by omega) HY.out
  go_wp2_with fail
  refine Calls.mono C3.out ?_
  rintro e w3 ⟨rfl, b3⟩
  clear C3
  have Ra3 : Hid (Row encP 2 w3 _ a) := Ra2.out.below b3
  have Rb3 : Hid (Row encP 2 w3 _ b) := Rb2.out.below b3
  have B3 : Hid (Below w.heap.size w w3) := B2.out.trans (b3.mono B2.out.size)
  clear Ra2 Rb2 B2
  clear b3
  have C4 : Hid (Calls Try.prog 13 #[.slice aoa a.length capa, .slice aob b.length capb] w3 (Gives w3 (unL a b))) := by
    show Calls _ _ _ _ _
    have := union_g _ _ a b w3 Ra3.out Rb3.out (by omega)
    exact this
  go_wp2_with fail
  refine Calls.mono C4.out ?_
  rintro e w4 ⟨aor1, nr1, cr1, rfl, rr1, b4⟩
  obtain ⟨_, _, kr1, _⟩ := id rr1
  cases kr1
  clear C4
  have Ra4 : Hid (Row encP 2 w4 _ a) := Ra3.out.below b4
  have Rb4 : Hid (Row encP 2 w4 _ b) := Rb3.out.below b4
  have B4 : Hid (Below w.heap.size w w4) := B3.out.trans (b4.mono B3.out.size)
  clear Ra3 Rb3 B3
  clear b4
  have Rr14 : Hid (Row encP 2 w4 _ (unL a b)) := rr1
  clear rr1
  have C5 : Hid (Calls Try.prog 20 #[.slice aor1 (unL a b).length cr1, .int .i64 n] w4 fun e w' => e = .returned (.bool false) ∧ Below w4.heap.size w4 w') := has_is _ (unL a b) n false w4 Rr14.out (by have := unL_length a b; omega) E1.out
  go_wp2_with fail
  refine Calls.mono C5.out ?_
  rintro e w5 ⟨rfl, b5⟩
  clear C5
  have Ra5 : Hid (Row encP 2 w5 _ a) := Ra4.out.below b5
  have Rb5 : Hid (Row encP 2 w5 _ b) := Rb4.out.below b5
  have Rr15 : Hid (Row encP 2 w5 _ (unL a b)) := Rr14.out.below b5
  have B5 : Hid (Below w.heap.size w w5) := B4.out.trans (b5.mono B4.out.size)
  clear Ra4 Rb4 Rr14 B4
  clear b5
  clear Rr15
  have C6 : Hid (Calls Try.prog 15 #[.slice aoa a.length capa, .slice aob b.length capb] w5 (Gives w5 (mnL a b))) := by
    show Calls _ _ _ _ _
    have := minus_g _ _ a b w5 Ra5.out Rb5.out (by omega)
    exact this
  go_wp2_with fail
  refine Calls.mono C6.out ?_
  rintro e w6 ⟨aor2, nr2, cr2, rfl, rr2, b6⟩
  obtain ⟨_, _, kr2, _⟩ := id rr2
  cases kr2
  clear C6
  have Ra6 : Hid (Row encP 2 w6 _ a) := Ra5.out.below b6
  have Rb6 : Hid (Row encP 2 w6 _ b) := Rb5.out.below b6
  have B6 : Hid (Below w.heap.size w w6) := B5.out.trans (b6.mono B5.out.size)
  clear Ra5 Rb5 B5
  clear b6
  have Rr26 : Hid (Row encP 2 w6 _ (mnL a b)) := rr2
  clear rr2
  have C7 : Hid (Calls Try.prog 20 #[.slice aor2 (mnL a b).length cr2, .int .i64 n] w6 fun e w' => e = .returned (.bool false) ∧ Below w6.heap.size w6 w') := has_is _ (mnL a b) n false w6 Rr26.out (by have := mnL_length a b; omega) E2.out
  go_wp2_with fail
  refine Calls.mono C7.out ?_
  rintro e w7 ⟨rfl, b7⟩
  clear C7
  have Ra7 : Hid (Row encP 2 w7 _ a) := Ra6.out.below b7
  have Rb7 : Hid (Row encP 2 w7 _ b) := Rb6.out.below b7
  have Rr27 : Hid (Row encP 2 w7 _ (mnL a b)) := Rr26.out.below b7
  have B7 : Hid (Below w.heap.size w w7) := B6.out.trans (b7.mono B6.out.size)
  clear Ra6 Rb6 Rr26 B6
  clear b7
  clear Rr27
  have C8 : Hid (Calls Try.prog 16 #[.slice aoa a.length capa, .slice aob b.length capb] w7 (Gives w7 (meL a b))) := by
    show Calls _ _ _ _ _
    have := meet_g _ _ a b w7 Ra7.out Rb7.out (by omega)
    exact this
  go_wp2_with fail
  refine Calls.mono C8.out ?_
  rintro e w8 ⟨aor3, nr3, cr3, rfl, rr3, b8⟩
  obtain ⟨_, _, kr3, _⟩ := id rr3
  cases kr3
  clear C8
  have Ra8 : Hid (Row encP 2 w8 _ a) := Ra7.out.below b8
  have Rb8 : Hid (Row encP 2 w8 _ b) := Rb7.out.below b8
  have B8 : Hid (Below w.heap.size w w8) := B7.out.trans (b8.mono B7.out.size)
  clear Ra7 Rb7 B7
  clear b8
  have Rr38 : Hid (Row encP 2 w8 _ (meL a b)) := rr3
  clear rr3
  have C9 : Hid (Calls Try.prog 20 #[.slice aor3 (meL a b).length cr3, .int .i64 n] w8 fun e w' => e = .returned (.bool false) ∧ Below w8.heap.size w8 w') := has_is _ (meL a b) n false w8 Rr38.out (by have := meL_length a b; omega) E3.out
  go_wp2_with fail
  refine Calls.mono C9.out ?_
  rintro e w9 ⟨rfl, b9⟩
  clear C9
  have Ra9 : Hid (Row encP 2 w9 _ a) := Ra8.out.below b9
  have Rb9 : Hid (Row encP 2 w9 _ b) := Rb8.out.below b9
  have Rr39 : Hid (Row encP 2 w9 _ (meL a b)) := Rr38.out.below b9
  have B9 : Hid (Below w.heap.size w w9) := B8.out.trans (b9.mono B8.out.size)
  clear Ra8 Rb8 Rr38 B8
  clear b9
  clear Rr39
  have C10 : Hid (Calls Try.prog 17 #[.slice aoa a.length capa, .int .i64 m] w9 (Gives w9 (unL a [(m, m)]))) := by
    show Calls _ _ _ _ _
    have := add_g _ a m w9 Ra9.out (by omega)
    exact this
  go_wp2_with fail
  refine Calls.mono C10.out ?_
  rintro e w10 ⟨aor4, nr4, cr4, rfl, rr4, b10⟩
  obtain ⟨_, _, kr4, _⟩ := id rr4
  cases kr4
  clear C10
  have Ra10 : Hid (Row encP 2 w10 _ a) := Ra9.out.below b10
  have Rb10 : Hid (Row encP 2 w10 _ b) := Rb9.out.below b10
  have B10 : Hid (Below w.heap.size w w10) := B9.out.trans (b10.mono B9.out.size)
  clear Ra9 Rb9 B9
  clear b10
  have Rr410 : Hid (Row encP 2 w10 _ (unL a [(m, m)])) := rr4
  clear rr4
  have C11 : Hid (Calls Try.prog 20 #[.slice aor4 (unL a [(m, m)]).length cr4, .int .i64 n] w10 fun e w' => e = .returned (.bool false) ∧ Below w10.heap.size w10 w') := has_is _ (unL a [(m, m)]) n false w10 Rr410.out (by have := len_one m; have := unL_length a [(m, m)]; omega) E4.out
  go_wp2_with fail
  refine Calls.mono C11.out ?_
  rintro e w11 ⟨rfl, b11⟩
  clear C11
  have Ra11 : Hid (Row encP 2 w11 _ a) := Ra10.out.below b11
  have Rb11 : Hid (Row encP 2 w11 _ b) := Rb10.out.below b11
  have Rr411 : Hid (Row encP 2 w11 _ (unL a [(m, m)])) := Rr410.out.below b11
  have B11 : Hid (Below w.heap.size w w11) := B10.out.trans (b11.mono B10.out.size)
  clear Ra10 Rb10 Rr410 B10
  clear b11
  clear Rr411
  have C12 : Hid (Calls Try.prog 18 #[.slice aoa a.length capa, .int .i64 m] w11 (Gives w11 (mnL a [(m, m)]))) := by
    show Calls _ _ _ _ _
    have := remove_g _ a m w11 Ra11.out (by omega)
    exact this
  go_wp2_with fail
  refine Calls.mono C12.out ?_
  rintro e w12 ⟨aor5, nr5, cr5, rfl, rr5, b12⟩
  obtain ⟨_, _, kr5, _⟩ := id rr5
  cases kr5
  clear C12
  have Ra12 : Hid (Row encP 2 w12 _ a) := Ra11.out.below b12
  have Rb12 : Hid (Row encP 2 w12 _ b) := Rb11.out.below b12
  have B12 : Hid (Below w.heap.size w w12) := B11.out.trans (b12.mono B11.out.size)
  clear Ra11 Rb11 B11
  clear b12
  have Rr512 : Hid (Row encP 2 w12 _ (mnL a [(m, m)])) := rr5
  clear rr5
  have C13 : Hid (Calls Try.prog 20 #[.slice aor5 (mnL a [(m, m)]).length cr5, .int .i64 n] w12 fun e w' => e = .returned (.bool false) ∧ Below w12.heap.size w12 w') := has_is _ (mnL a [(m, m)]) n false w12 Rr512.out (by have := len_one m; have := mnL_length a [(m, m)]; omega) E5.out
  go_wp2_with fail
  refine Calls.mono C13.out ?_
  rintro e w13 ⟨rfl, b13⟩
  clear C13
  have Ra13 : Hid (Row encP 2 w13 _ a) := Ra12.out.below b13
  have Rb13 : Hid (Row encP 2 w13 _ b) := Rb12.out.below b13
  have Rr513 : Hid (Row encP 2 w13 _ (mnL a [(m, m)])) := Rr512.out.below b13
  have B13 : Hid (Below w.heap.size w w13) := B12.out.trans (b13.mono B12.out.size)
  clear Ra12 Rb12 Rr512 B12
  clear b13
  clear Rr513
  have C14 : Hid (Calls Try.prog 13 #[.slice aoa a.length capa, .slice aob b.length capb] w13 (Gives w13 (unL a b))) := by
    show Calls _ _ _ _ _
    have := union_g _ _ a b w13 Ra13.out Rb13.out (by omega)
    exact this
  go_wp2_with fail
  refine Calls.mono C14.out ?_
  rintro e w14 ⟨aor6, nr6, cr6, rfl, rr6, b14⟩
  obtain ⟨_, _, kr6, _⟩ := id rr6
  cases kr6
  clear C14
  have Ra14 : Hid (Row encP 2 w14 _ a) := Ra13.out.below b14
  have Rb14 : Hid (Row encP 2 w14 _ b) := Rb13.out.below b14
  have B14 : Hid (Below w.heap.size w w14) := B13.out.trans (b14.mono B13.out.size)
  clear Ra13 Rb13 B13
  clear b14
  have Rr614 : Hid (Row encP 2 w14 _ (unL a b)) := rr6
  clear rr6
  have C15 : Hid (Calls Try.prog 22 #[.slice aor6 (unL a b).length cr6] w14 fun e w' => e = .returned (.int .i64 cu) ∧ Below w14.heap.size w14 w') := by show Calls _ _ _ _ _; have := count_cn _ _ w14 Rr614.out (unL_cn a b) (by have := unL_length a b; omega); rw [Hcu.out] at this; exact this
  go_wp2_with fail
  refine Calls.mono C15.out ?_
  rintro e w15 ⟨rfl, b15⟩
  clear C15
  have Ra15 : Hid (Row encP 2 w15 _ a) := Ra14.out.below b15
  have Rb15 : Hid (Row encP 2 w15 _ b) := Rb14.out.below b15
  have Rr615 : Hid (Row encP 2 w15 _ (unL a b)) := Rr614.out.below b15
  have B15 : Hid (Below w.heap.size w w15) := B14.out.trans (b15.mono B14.out.size)
  clear Ra14 Rb14 Rr614 B14
  clear b15
  clear Rr615
  have C16 : Hid (Calls Try.prog 16 #[.slice aoa a.length capa, .slice aob b.length capb] w15 (Gives w15 (meL a b))) := by
    show Calls _ _ _ _ _
    have := meet_g _ _ a b w15 Ra15.out Rb15.out (by omega)
    exact this
  go_wp2_with fail
  refine Calls.mono C16.out ?_
  rintro e w16 ⟨aor7, nr7, cr7, rfl, rr7, b16⟩
  obtain ⟨_, _, kr7, _⟩ := id rr7
  cases kr7
  clear C16
  have Ra16 : Hid (Row encP 2 w16 _ a) := Ra15.out.below b16
  have Rb16 : Hid (Row encP 2 w16 _ b) := Rb15.out.below b16
  have B16 : Hid (Below w.heap.size w w16) := B15.out.trans (b16.mono B15.out.size)
  clear Ra15 Rb15 B15
  clear b16
  have Rr716 : Hid (Row encP 2 w16 _ (meL a b)) := rr7
  clear rr7
  have C17 : Hid (Calls Try.prog 22 #[.slice aor7 (meL a b).length cr7] w16 fun e w' => e = .returned (.int .i64 cm) ∧ Below w16.heap.size w16 w') := by show Calls _ _ _ _ _; have := count_cn _ _ w16 Rr716.out (meL_cn a b) (by have := meL_length a b; omega); rw [Hcm.out] at this; exact this
  go_wp2_with fail
  refine Calls.mono C17.out ?_
  rintro e w17 ⟨rfl, b17⟩
  clear C17
  have Ra17 : Hid (Row encP 2 w17 _ a) := Ra16.out.below b17
  have Rb17 : Hid (Row encP 2 w17 _ b) := Rb16.out.below b17
  have Rr717 : Hid (Row encP 2 w17 _ (meL a b)) := Rr716.out.below b17
  have B17 : Hid (Below w.heap.size w w17) := B16.out.trans (b17.mono B16.out.size)
  clear Ra16 Rb16 Rr716 B16
  clear b17
  clear Rr717
  have C18 : Hid (Calls Try.prog 22 #[.slice aoa a.length capa] w17 fun e w' => e = .returned (.int .i64 ca) ∧ Below w17.heap.size w17 w') := by show Calls _ _ _ _ _; have := count_any _ _ w17 Ra17.out (by omega); rw [Hca.out] at this; exact this
  go_wp2_with fail
  refine Calls.mono C18.out ?_
  rintro e w18 ⟨rfl, b18⟩
  clear C18
  have Ra18 : Hid (Row encP 2 w18 _ a) := Ra17.out.below b18
  have Rb18 : Hid (Row encP 2 w18 _ b) := Rb17.out.below b18
  have B18 : Hid (Below w.heap.size w w18) := B17.out.trans (b18.mono B17.out.size)
  clear Ra17 Rb17 B17
  clear b18
  have C19 : Hid (Calls Try.prog 22 #[.slice aob b.length capb] w18 fun e w' => e = .returned (.int .i64 cb) ∧ Below w18.heap.size w18 w') := by show Calls _ _ _ _ _; have := count_any _ _ w18 Rb18.out (by omega); rw [Hcb.out] at this; exact this
  go_wp2_with fail
  refine Calls.mono C19.out ?_
  rintro e w19 ⟨rfl, b19⟩
  clear C19
  have Ra19 : Hid (Row encP 2 w19 _ a) := Ra18.out.below b19
  have Rb19 : Hid (Row encP 2 w19 _ b) := Rb18.out.below b19
  have B19 : Hid (Below w.heap.size w w19) := B18.out.trans (b19.mono B18.out.size)
  clear Ra18 Rb18 B18
  clear b19
  go_wp2
  go_ret
  exact ⟨rfl, B19.out⟩

set_option maxRecDepth 100000 in
set_option maxHeartbeats 4000000 in
theorem logic.c10 (va : Value) (a : List Pr) (vb : Value) (b : List Pr) (n : Int) (m : Int) (w : World) (ha : Row encP 2 w va a) (hb : Row encP 2 w vb b) (la : a.length ≤ 40) (lb : b.length ≤ 40) (hx : hasB a n = false) (hy : hasB b n = false) (t0 : 0 ≤ n) (t1 : ¬ n ≤ 4294967295) (he : n = m) : Calls Try.prog 5 #[va, vb, .int .i64 n, .int .i64 m] w fun e w' => e = .returned (.bool true) ∧ Below w.heap.size w w' := by
  have HX : Hid (hasB a n = false) := hx
  have HY : Hid (hasB b n = false) := hy
  have E1 : Hid (hasB (unL a b) n = false) := by show _ = _; rw [has_un, hx, hy]; rfl
  have E2 : Hid (hasB (mnL a b) n = false) := by show _ = _; rw [has_mn, hx, hy]; rfl
  have E3 : Hid (hasB (meL a b) n = false) := by show _ = _; rw [has_me, hx, hy]; rfl
  have E4 : Hid (hasB (unL a [(m, m)]) n = false) := by show _ = _; rw [has_un, hx, has_one]; simp only [Bool.false_or]; exact decide_eq_false (by omega)
  have E5 : Hid (hasB (mnL a [(m, m)]) n = false) := by show _ = _; rw [has_mn, hx, has_one]; rfl
  have CE : Hid (cntL (unL a b) + cntL (meL a b) = cntL (nmL a) + cntL (nmL b)) := cnt_un_me a b
  have cb1 := cnt_le (unL_cn a b)
  have cb2 := cnt_le (meL_cn a b)
  have cb3 := cnt_le (nmL_cn a)
  have cb4 := cnt_le (nmL_cn b)
  obtain ⟨cu, hcu⟩ : ∃ k, cntL (unL a b) = k := ⟨_, rfl⟩
  obtain ⟨cm, hcm⟩ : ∃ k, cntL (meL a b) = k := ⟨_, rfl⟩
  obtain ⟨ca, hca⟩ : ∃ k, cntL (nmL a) = k := ⟨_, rfl⟩
  obtain ⟨cb, hcb⟩ : ∃ k, cntL (nmL b) = k := ⟨_, rfl⟩
  rw [hcu] at cb1
  rw [hcm] at cb2
  rw [hca] at cb3
  rw [hcb] at cb4
  rw [hcu, hcm, hca, hcb] at CE
  have Hcu : Hid _ := hcu
  have Hcm : Hid _ := hcm
  have Hca : Hid _ := hca
  have Hcb : Hid _ := hcb
  clear hcu hcm hca hcb
  have w1e : wrap64 (cu + cm) = cu + cm := w64 (by omega) (by omega)
  have w2e : wrap64 (ca + cb) = ca + cb := w64 (by omega) (by omega)
  have ceq : (cu + cm == ca + cb) = true := beq_iff_eq.2 CE.out
  have ne1 : (n == m) = true := beq_iff_eq.2 he
  have ne2 : (n != m) = false := by unfold bne; rw [ne1]; rfl
  have td : decide (n ≤ 4294967295) = false := decide_eq_false t1
  clear hx hy he CE
  have Ra0 : Hid (Row encP 2 w va a) := ha
  obtain ⟨aoa, capa, rfl, _⟩ := id ha
  have Rb0 : Hid (Row encP 2 w vb b) := hb
  obtain ⟨aob, capb, rfl, _⟩ := id hb
  clear ha hb
  have B0 : Hid (Below w.heap.size w w) := Below.refl _ _
  have ia : ¬ (40 : Int) < (a.length : Int) := by omega
  have ib : ¬ (40 : Int) < (b.length : Int) := by omega
  go_enter Try.func5, Try.ntmps5
  have C1 : Hid (Calls Try.prog 9 #[] w fun e w' => e = .returned (.bool true) ∧ Below w.heap.size w w') := works_any w
  go_wp2_with fail
  refine Calls.mono C1.out ?_
  rintro e w1 ⟨rfl, b1⟩
  clear C1
  have Ra1 : Hid (Row encP 2 w1 _ a) := Ra0.out.below b1
  have Rb1 : Hid (Row encP 2 w1 _ b) := Rb0.out.below b1
  have B1 : Hid (Below w.heap.size w w1) := B0.out.trans (b1.mono B0.out.size)
  clear Ra0 Rb0 B0
  clear b1
  have C2 : Hid (Calls Try.prog 20 #[.slice aoa a.length capa, .int .i64 n] w1 fun e w' => e = .returned (.bool false) ∧ Below w1.heap.size w1 w') := has_is _ a n false w1 Ra1.out (by omega) HX.out
  go_wp2_with fail
  refine Calls.mono C2.out ?_
  rintro e w2 ⟨rfl, b2⟩
  clear C2
  have Ra2 : Hid (Row encP 2 w2 _ a) := Ra1.out.below b2
  have Rb2 : Hid (Row encP 2 w2 _ b) := Rb1.out.below b2
  have B2 : Hid (Below w.heap.size w w2) := B1.out.trans (b2.mono B1.out.size)
  clear Ra1 Rb1 B1
  clear b2
  have C3 : Hid (Calls Try.prog 20 #[.slice aob b.length capb, .int .i64 n] w2 fun e w' => e = .returned (.bool false) ∧ Below w2.heap.size w2 w') := has_is _ b n false w2 Rb2.out (by omega) HY.out
  go_wp2_with fail
  refine Calls.mono C3.out ?_
  rintro e w3 ⟨rfl, b3⟩
  clear C3
  have Ra3 : Hid (Row encP 2 w3 _ a) := Ra2.out.below b3
  have Rb3 : Hid (Row encP 2 w3 _ b) := Rb2.out.below b3
  have B3 : Hid (Below w.heap.size w w3) := B2.out.trans (b3.mono B2.out.size)
  clear Ra2 Rb2 B2
  clear b3
  have C4 : Hid (Calls Try.prog 13 #[.slice aoa a.length capa, .slice aob b.length capb] w3 (Gives w3 (unL a b))) := by
    show Calls _ _ _ _ _
    have := union_g _ _ a b w3 Ra3.out Rb3.out (by omega)
    exact this
  go_wp2_with fail
  refine Calls.mono C4.out ?_
  rintro e w4 ⟨aor1, nr1, cr1, rfl, rr1, b4⟩
  obtain ⟨_, _, kr1, _⟩ := id rr1
  cases kr1
  clear C4
  have Ra4 : Hid (Row encP 2 w4 _ a) := Ra3.out.below b4
  have Rb4 : Hid (Row encP 2 w4 _ b) := Rb3.out.below b4
  have B4 : Hid (Below w.heap.size w w4) := B3.out.trans (b4.mono B3.out.size)
  clear Ra3 Rb3 B3
  clear b4
  have Rr14 : Hid (Row encP 2 w4 _ (unL a b)) := rr1
  clear rr1
  have C5 : Hid (Calls Try.prog 20 #[.slice aor1 (unL a b).length cr1, .int .i64 n] w4 fun e w' => e = .returned (.bool false) ∧ Below w4.heap.size w4 w') := has_is _ (unL a b) n false w4 Rr14.out (by have := unL_length a b; omega) E1.out
  go_wp2_with fail
  refine Calls.mono C5.out ?_
  rintro e w5 ⟨rfl, b5⟩
  clear C5
  have Ra5 : Hid (Row encP 2 w5 _ a) := Ra4.out.below b5
  have Rb5 : Hid (Row encP 2 w5 _ b) := Rb4.out.below b5
  have Rr15 : Hid (Row encP 2 w5 _ (unL a b)) := Rr14.out.below b5
  have B5 : Hid (Below w.heap.size w w5) := B4.out.trans (b5.mono B4.out.size)
  clear Ra4 Rb4 Rr14 B4
  clear b5
  clear Rr15
  have C6 : Hid (Calls Try.prog 15 #[.slice aoa a.length capa, .slice aob b.length capb] w5 (Gives w5 (mnL a b))) := by
    show Calls _ _ _ _ _
    have := minus_g _ _ a b w5 Ra5.out Rb5.out (by omega)
    exact this
  go_wp2_with fail
  refine Calls.mono C6.out ?_
  rintro e w6 ⟨aor2, nr2, cr2, rfl, rr2, b6⟩
  obtain ⟨_, _, kr2, _⟩ := id rr2
  cases kr2
  clear C6
  have Ra6 : Hid (Row encP 2 w6 _ a) := Ra5.out.below b6
  have Rb6 : Hid (Row encP 2 w6 _ b) := Rb5.out.below b6
  have B6 : Hid (Below w.heap.size w w6) := B5.out.trans (b6.mono B5.out.size)
  clear Ra5 Rb5 B5
  clear b6
  have Rr26 : Hid (Row encP 2 w6 _ (mnL a b)) := rr2
  clear rr2
  have C7 : Hid (Calls Try.prog 20 #[.slice aor2 (mnL a b).length cr2, .int .i64 n] w6 fun e w' => e = .returned (.bool false) ∧ Below w6.heap.size w6 w') := has_is _ (mnL a b) n false w6 Rr26.out (by have := mnL_length a b; omega) E2.out
  go_wp2_with fail
  refine Calls.mono C7.out ?_
  rintro e w7 ⟨rfl, b7⟩
  clear C7
  have Ra7 : Hid (Row encP 2 w7 _ a) := Ra6.out.below b7
  have Rb7 : Hid (Row encP 2 w7 _ b) := Rb6.out.below b7
  have Rr27 : Hid (Row encP 2 w7 _ (mnL a b)) := Rr26.out.below b7
  have B7 : Hid (Below w.heap.size w w7) := B6.out.trans (b7.mono B6.out.size)
  clear Ra6 Rb6 Rr26 B6
  clear b7
  clear Rr27
  have C8 : Hid (Calls Try.prog 16 #[.slice aoa a.length capa, .slice aob b.length capb] w7 (Gives w7 (meL a b))) := by
    show Calls _ _ _ _ _
    have := meet_g _ _ a b w7 Ra7.out Rb7.out (by omega)
    exact this
  go_wp2_with fail
  refine Calls.mono C8.out ?_
  rintro e w8 ⟨aor3, nr3, cr3, rfl, rr3, b8⟩
  obtain ⟨_, _, kr3, _⟩ := id rr3
  cases kr3
  clear C8
  have Ra8 : Hid (Row encP 2 w8 _ a) := Ra7.out.below b8
  have Rb8 : Hid (Row encP 2 w8 _ b) := Rb7.out.below b8
  have B8 : Hid (Below w.heap.size w w8) := B7.out.trans (b8.mono B7.out.size)
  clear Ra7 Rb7 B7
  clear b8
  have Rr38 : Hid (Row encP 2 w8 _ (meL a b)) := rr3
  clear rr3
  have C9 : Hid (Calls Try.prog 20 #[.slice aor3 (meL a b).length cr3, .int .i64 n] w8 fun e w' => e = .returned (.bool false) ∧ Below w8.heap.size w8 w') := has_is _ (meL a b) n false w8 Rr38.out (by have := meL_length a b; omega) E3.out
  go_wp2_with fail
  refine Calls.mono C9.out ?_
  rintro e w9 ⟨rfl, b9⟩
  clear C9
  have Ra9 : Hid (Row encP 2 w9 _ a) := Ra8.out.below b9
  have Rb9 : Hid (Row encP 2 w9 _ b) := Rb8.out.below b9
  have Rr39 : Hid (Row encP 2 w9 _ (meL a b)) := Rr38.out.below b9
  have B9 : Hid (Below w.heap.size w w9) := B8.out.trans (b9.mono B8.out.size)
  clear Ra8 Rb8 Rr38 B8
  clear b9
  clear Rr39
  have C10 : Hid (Calls Try.prog 17 #[.slice aoa a.length capa, .int .i64 m] w9 (Gives w9 (unL a [(m, m)]))) := by
    show Calls _ _ _ _ _
    have := add_g _ a m w9 Ra9.out (by omega)
    exact this
  go_wp2_with fail
  refine Calls.mono C10.out ?_
  rintro e w10 ⟨aor4, nr4, cr4, rfl, rr4, b10⟩
  obtain ⟨_, _, kr4, _⟩ := id rr4
  cases kr4
  clear C10
  have Ra10 : Hid (Row encP 2 w10 _ a) := Ra9.out.below b10
  have Rb10 : Hid (Row encP 2 w10 _ b) := Rb9.out.below b10
  have B10 : Hid (Below w.heap.size w w10) := B9.out.trans (b10.mono B9.out.size)
  clear Ra9 Rb9 B9
  clear b10
  have Rr410 : Hid (Row encP 2 w10 _ (unL a [(m, m)])) := rr4
  clear rr4
  have C11 : Hid (Calls Try.prog 20 #[.slice aor4 (unL a [(m, m)]).length cr4, .int .i64 n] w10 fun e w' => e = .returned (.bool false) ∧ Below w10.heap.size w10 w') := has_is _ (unL a [(m, m)]) n false w10 Rr410.out (by have := len_one m; have := unL_length a [(m, m)]; omega) E4.out
  go_wp2_with fail
  refine Calls.mono C11.out ?_
  rintro e w11 ⟨rfl, b11⟩
  clear C11
  have Ra11 : Hid (Row encP 2 w11 _ a) := Ra10.out.below b11
  have Rb11 : Hid (Row encP 2 w11 _ b) := Rb10.out.below b11
  have Rr411 : Hid (Row encP 2 w11 _ (unL a [(m, m)])) := Rr410.out.below b11
  have B11 : Hid (Below w.heap.size w w11) := B10.out.trans (b11.mono B10.out.size)
  clear Ra10 Rb10 Rr410 B10
  clear b11
  clear Rr411
  have C12 : Hid (Calls Try.prog 18 #[.slice aoa a.length capa, .int .i64 m] w11 (Gives w11 (mnL a [(m, m)]))) := by
    show Calls _ _ _ _ _
    have := remove_g _ a m w11 Ra11.out (by omega)
    exact this
  go_wp2_with fail
  refine Calls.mono C12.out ?_
  rintro e w12 ⟨aor5, nr5, cr5, rfl, rr5, b12⟩
  obtain ⟨_, _, kr5, _⟩ := id rr5
  cases kr5
  clear C12
  have Ra12 : Hid (Row encP 2 w12 _ a) := Ra11.out.below b12
  have Rb12 : Hid (Row encP 2 w12 _ b) := Rb11.out.below b12
  have B12 : Hid (Below w.heap.size w w12) := B11.out.trans (b12.mono B11.out.size)
  clear Ra11 Rb11 B11
  clear b12
  have Rr512 : Hid (Row encP 2 w12 _ (mnL a [(m, m)])) := rr5
  clear rr5
  have C13 : Hid (Calls Try.prog 20 #[.slice aor5 (mnL a [(m, m)]).length cr5, .int .i64 n] w12 fun e w' => e = .returned (.bool false) ∧ Below w12.heap.size w12 w') := has_is _ (mnL a [(m, m)]) n false w12 Rr512.out (by have := len_one m; have := mnL_length a [(m, m)]; omega) E5.out
  go_wp2_with fail
  refine Calls.mono C13.out ?_
  rintro e w13 ⟨rfl, b13⟩
  clear C13
  have Ra13 : Hid (Row encP 2 w13 _ a) := Ra12.out.below b13
  have Rb13 : Hid (Row encP 2 w13 _ b) := Rb12.out.below b13
  have Rr513 : Hid (Row encP 2 w13 _ (mnL a [(m, m)])) := Rr512.out.below b13
  have B13 : Hid (Below w.heap.size w w13) := B12.out.trans (b13.mono B12.out.size)
  clear Ra12 Rb12 Rr512 B12
  clear b13
  clear Rr513
  have C14 : Hid (Calls Try.prog 13 #[.slice aoa a.length capa, .slice aob b.length capb] w13 (Gives w13 (unL a b))) := by
    show Calls _ _ _ _ _
    have := union_g _ _ a b w13 Ra13.out Rb13.out (by omega)
    exact this
  go_wp2_with fail
  refine Calls.mono C14.out ?_
  rintro e w14 ⟨aor6, nr6, cr6, rfl, rr6, b14⟩
  obtain ⟨_, _, kr6, _⟩ := id rr6
  cases kr6
  clear C14
  have Ra14 : Hid (Row encP 2 w14 _ a) := Ra13.out.below b14
  have Rb14 : Hid (Row encP 2 w14 _ b) := Rb13.out.below b14
  have B14 : Hid (Below w.heap.size w w14) := B13.out.trans (b14.mono B13.out.size)
  clear Ra13 Rb13 B13
  clear b14
  have Rr614 : Hid (Row encP 2 w14 _ (unL a b)) := rr6
  clear rr6
  have C15 : Hid (Calls Try.prog 22 #[.slice aor6 (unL a b).length cr6] w14 fun e w' => e = .returned (.int .i64 cu) ∧ Below w14.heap.size w14 w') := by show Calls _ _ _ _ _; have := count_cn _ _ w14 Rr614.out (unL_cn a b) (by have := unL_length a b; omega); rw [Hcu.out] at this; exact this
  go_wp2_with fail
  refine Calls.mono C15.out ?_
  rintro e w15 ⟨rfl, b15⟩
  clear C15
  have Ra15 : Hid (Row encP 2 w15 _ a) := Ra14.out.below b15
  have Rb15 : Hid (Row encP 2 w15 _ b) := Rb14.out.below b15
  have Rr615 : Hid (Row encP 2 w15 _ (unL a b)) := Rr614.out.below b15
  have B15 : Hid (Below w.heap.size w w15) := B14.out.trans (b15.mono B14.out.size)
  clear Ra14 Rb14 Rr614 B14
  clear b15
  clear Rr615
  have C16 : Hid (Calls Try.prog 16 #[.slice aoa a.length capa, .slice aob b.length capb] w15 (Gives w15 (meL a b))) := by
    show Calls _ _ _ _ _
    have := meet_g _ _ a b w15 Ra15.out Rb15.out (by omega)
    exact this
  go_wp2_with fail
  refine Calls.mono C16.out ?_
  rintro e w16 ⟨aor7, nr7, cr7, rfl, rr7, b16⟩
  obtain ⟨_, _, kr7, _⟩ := id rr7
  cases kr7
  clear C16
  have Ra16 : Hid (Row encP 2 w16 _ a) := Ra15.out.below b16
  have Rb16 : Hid (Row encP 2 w16 _ b) := Rb15.out.below b16
  have B16 : Hid (Below w.heap.size w w16) := B15.out.trans (b16.mono B15.out.size)
  clear Ra15 Rb15 B15
  clear b16
  have Rr716 : Hid (Row encP 2 w16 _ (meL a b)) := rr7
  clear rr7
  have C17 : Hid (Calls Try.prog 22 #[.slice aor7 (meL a b).length cr7] w16 fun e w' => e = .returned (.int .i64 cm) ∧ Below w16.heap.size w16 w') := by show Calls _ _ _ _ _; have := count_cn _ _ w16 Rr716.out (meL_cn a b) (by have := meL_length a b; omega); rw [Hcm.out] at this; exact this
  go_wp2_with fail
  refine Calls.mono C17.out ?_
  rintro e w17 ⟨rfl, b17⟩
  clear C17
  have Ra17 : Hid (Row encP 2 w17 _ a) := Ra16.out.below b17
  have Rb17 : Hid (Row encP 2 w17 _ b) := Rb16.out.below b17
  have Rr717 : Hid (Row encP 2 w17 _ (meL a b)) := Rr716.out.below b17
  have B17 : Hid (Below w.heap.size w w17) := B16.out.trans (b17.mono B16.out.size)
  clear Ra16 Rb16 Rr716 B16
  clear b17
  clear Rr717
  have C18 : Hid (Calls Try.prog 22 #[.slice aoa a.length capa] w17 fun e w' => e = .returned (.int .i64 ca) ∧ Below w17.heap.size w17 w') := by show Calls _ _ _ _ _; have := count_any _ _ w17 Ra17.out (by omega); rw [Hca.out] at this; exact this
  go_wp2_with fail
  refine Calls.mono C18.out ?_
  rintro e w18 ⟨rfl, b18⟩
  clear C18
  have Ra18 : Hid (Row encP 2 w18 _ a) := Ra17.out.below b18
  have Rb18 : Hid (Row encP 2 w18 _ b) := Rb17.out.below b18
  have B18 : Hid (Below w.heap.size w w18) := B17.out.trans (b18.mono B17.out.size)
  clear Ra17 Rb17 B17
  clear b18
  have C19 : Hid (Calls Try.prog 22 #[.slice aob b.length capb] w18 fun e w' => e = .returned (.int .i64 cb) ∧ Below w18.heap.size w18 w') := by show Calls _ _ _ _ _; have := count_any _ _ w18 Rb18.out (by omega); rw [Hcb.out] at this; exact this
  go_wp2_with fail
  refine Calls.mono C19.out ?_
  rintro e w19 ⟨rfl, b19⟩
  clear C19
  have Ra19 : Hid (Row encP 2 w19 _ a) := Ra18.out.below b19
  have Rb19 : Hid (Row encP 2 w19 _ b) := Rb18.out.below b19
  have B19 : Hid (Below w.heap.size w w19) := B18.out.trans (b19.mono B18.out.size)
  clear Ra18 Rb18 B18
  clear b19
  go_wp2
  go_ret
  first | exact ⟨rfl, B19.out⟩ | exact ⟨by rw [td]; rfl, B19.out⟩

set_option maxRecDepth 100000 in
set_option maxHeartbeats 4000000 in
theorem logic.c11 (va : Value) (a : List Pr) (vb : Value) (b : List Pr) (n : Int) (m : Int) (w : World) (ha : Row encP 2 w va a) (hb : Row encP 2 w vb b) (la : a.length ≤ 40) (lb : b.length ≤ 40) (hx : hasB a n = false) (hy : hasB b n = false) (t0 : 0 ≤ n) (t1 : ¬ n ≤ 4294967295) (he : n ≠ m) : Calls Try.prog 5 #[va, vb, .int .i64 n, .int .i64 m] w fun e w' => e = .returned (.bool true) ∧ Below w.heap.size w w' := by
  have HX : Hid (hasB a n = false) := hx
  have HY : Hid (hasB b n = false) := hy
  have E1 : Hid (hasB (unL a b) n = false) := by show _ = _; rw [has_un, hx, hy]; rfl
  have E2 : Hid (hasB (mnL a b) n = false) := by show _ = _; rw [has_mn, hx, hy]; rfl
  have E3 : Hid (hasB (meL a b) n = false) := by show _ = _; rw [has_me, hx, hy]; rfl
  have E4 : Hid (hasB (unL a [(m, m)]) n = false) := by show _ = _; rw [has_un, hx, has_one]; simp only [Bool.false_or]; exact decide_eq_false (by omega)
  have E5 : Hid (hasB (mnL a [(m, m)]) n = false) := by show _ = _; rw [has_mn, hx, has_one]; rfl
  have CE : Hid (cntL (unL a b) + cntL (meL a b) = cntL (nmL a) + cntL (nmL b)) := cnt_un_me a b
  have cb1 := cnt_le (unL_cn a b)
  have cb2 := cnt_le (meL_cn a b)
  have cb3 := cnt_le (nmL_cn a)
  have cb4 := cnt_le (nmL_cn b)
  obtain ⟨cu, hcu⟩ : ∃ k, cntL (unL a b) = k := ⟨_, rfl⟩
  obtain ⟨cm, hcm⟩ : ∃ k, cntL (meL a b) = k := ⟨_, rfl⟩
  obtain ⟨ca, hca⟩ : ∃ k, cntL (nmL a) = k := ⟨_, rfl⟩
  obtain ⟨cb, hcb⟩ : ∃ k, cntL (nmL b) = k := ⟨_, rfl⟩
  rw [hcu] at cb1
  rw [hcm] at cb2
  rw [hca] at cb3
  rw [hcb] at cb4
  rw [hcu, hcm, hca, hcb] at CE
  have Hcu : Hid _ := hcu
  have Hcm : Hid _ := hcm
  have Hca : Hid _ := hca
  have Hcb : Hid _ := hcb
  clear hcu hcm hca hcb
  have w1e : wrap64 (cu + cm) = cu + cm := w64 (by omega) (by omega)
  have w2e : wrap64 (ca + cb) = ca + cb := w64 (by omega) (by omega)
  have ceq : (cu + cm == ca + cb) = true := beq_iff_eq.2 CE.out
  have ne1 : (n == m) = false := beq_eq_false_iff_ne.2 he
  have ne2 : (n != m) = true := by unfold bne; rw [ne1]; rfl
  have td : decide (n ≤ 4294967295) = false := decide_eq_false t1
  clear hx hy he CE
  have Ra0 : Hid (Row encP 2 w va a) := ha
  obtain ⟨aoa, capa, rfl, _⟩ := id ha
  have Rb0 : Hid (Row encP 2 w vb b) := hb
  obtain ⟨aob, capb, rfl, _⟩ := id hb
  clear ha hb
  have B0 : Hid (Below w.heap.size w w) := Below.refl _ _
  have ia : ¬ (40 : Int) < (a.length : Int) := by omega
  have ib : ¬ (40 : Int) < (b.length : Int) := by omega
  go_enter Try.func5, Try.ntmps5
  have C1 : Hid (Calls Try.prog 9 #[] w fun e w' => e = .returned (.bool true) ∧ Below w.heap.size w w') := works_any w
  go_wp2_with fail
  refine Calls.mono C1.out ?_
  rintro e w1 ⟨rfl, b1⟩
  clear C1
  have Ra1 : Hid (Row encP 2 w1 _ a) := Ra0.out.below b1
  have Rb1 : Hid (Row encP 2 w1 _ b) := Rb0.out.below b1
  have B1 : Hid (Below w.heap.size w w1) := B0.out.trans (b1.mono B0.out.size)
  clear Ra0 Rb0 B0
  clear b1
  have C2 : Hid (Calls Try.prog 20 #[.slice aoa a.length capa, .int .i64 n] w1 fun e w' => e = .returned (.bool false) ∧ Below w1.heap.size w1 w') := has_is _ a n false w1 Ra1.out (by omega) HX.out
  go_wp2_with fail
  refine Calls.mono C2.out ?_
  rintro e w2 ⟨rfl, b2⟩
  clear C2
  have Ra2 : Hid (Row encP 2 w2 _ a) := Ra1.out.below b2
  have Rb2 : Hid (Row encP 2 w2 _ b) := Rb1.out.below b2
  have B2 : Hid (Below w.heap.size w w2) := B1.out.trans (b2.mono B1.out.size)
  clear Ra1 Rb1 B1
  clear b2
  have C3 : Hid (Calls Try.prog 20 #[.slice aob b.length capb, .int .i64 n] w2 fun e w' => e = .returned (.bool false) ∧ Below w2.heap.size w2 w') := has_is _ b n false w2 Rb2.out (by omega) HY.out
  go_wp2_with fail
  refine Calls.mono C3.out ?_
  rintro e w3 ⟨rfl, b3⟩
  clear C3
  have Ra3 : Hid (Row encP 2 w3 _ a) := Ra2.out.below b3
  have Rb3 : Hid (Row encP 2 w3 _ b) := Rb2.out.below b3
  have B3 : Hid (Below w.heap.size w w3) := B2.out.trans (b3.mono B2.out.size)
  clear Ra2 Rb2 B2
  clear b3
  have C4 : Hid (Calls Try.prog 13 #[.slice aoa a.length capa, .slice aob b.length capb] w3 (Gives w3 (unL a b))) := by
    show Calls _ _ _ _ _
    have := union_g _ _ a b w3 Ra3.out Rb3.out (by omega)
    exact this
  go_wp2_with fail
  refine Calls.mono C4.out ?_
  rintro e w4 ⟨aor1, nr1, cr1, rfl, rr1, b4⟩
  obtain ⟨_, _, kr1, _⟩ := id rr1
  cases kr1
  clear C4
  have Ra4 : Hid (Row encP 2 w4 _ a) := Ra3.out.below b4
  have Rb4 : Hid (Row encP 2 w4 _ b) := Rb3.out.below b4
  have B4 : Hid (Below w.heap.size w w4) := B3.out.trans (b4.mono B3.out.size)
  clear Ra3 Rb3 B3
  clear b4
  have Rr14 : Hid (Row encP 2 w4 _ (unL a b)) := rr1
  clear rr1
  have C5 : Hid (Calls Try.prog 20 #[.slice aor1 (unL a b).length cr1, .int .i64 n] w4 fun e w' => e = .returned (.bool false) ∧ Below w4.heap.size w4 w') := has_is _ (unL a b) n false w4 Rr14.out (by have := unL_length a b; omega) E1.out
  go_wp2_with fail
  refine Calls.mono C5.out ?_
  rintro e w5 ⟨rfl, b5⟩
  clear C5
  have Ra5 : Hid (Row encP 2 w5 _ a) := Ra4.out.below b5
  have Rb5 : Hid (Row encP 2 w5 _ b) := Rb4.out.below b5
  have Rr15 : Hid (Row encP 2 w5 _ (unL a b)) := Rr14.out.below b5
  have B5 : Hid (Below w.heap.size w w5) := B4.out.trans (b5.mono B4.out.size)
  clear Ra4 Rb4 Rr14 B4
  clear b5
  clear Rr15
  have C6 : Hid (Calls Try.prog 15 #[.slice aoa a.length capa, .slice aob b.length capb] w5 (Gives w5 (mnL a b))) := by
    show Calls _ _ _ _ _
    have := minus_g _ _ a b w5 Ra5.out Rb5.out (by omega)
    exact this
  go_wp2_with fail
  refine Calls.mono C6.out ?_
  rintro e w6 ⟨aor2, nr2, cr2, rfl, rr2, b6⟩
  obtain ⟨_, _, kr2, _⟩ := id rr2
  cases kr2
  clear C6
  have Ra6 : Hid (Row encP 2 w6 _ a) := Ra5.out.below b6
  have Rb6 : Hid (Row encP 2 w6 _ b) := Rb5.out.below b6
  have B6 : Hid (Below w.heap.size w w6) := B5.out.trans (b6.mono B5.out.size)
  clear Ra5 Rb5 B5
  clear b6
  have Rr26 : Hid (Row encP 2 w6 _ (mnL a b)) := rr2
  clear rr2
  have C7 : Hid (Calls Try.prog 20 #[.slice aor2 (mnL a b).length cr2, .int .i64 n] w6 fun e w' => e = .returned (.bool false) ∧ Below w6.heap.size w6 w') := has_is _ (mnL a b) n false w6 Rr26.out (by have := mnL_length a b; omega) E2.out
  go_wp2_with fail
  refine Calls.mono C7.out ?_
  rintro e w7 ⟨rfl, b7⟩
  clear C7
  have Ra7 : Hid (Row encP 2 w7 _ a) := Ra6.out.below b7
  have Rb7 : Hid (Row encP 2 w7 _ b) := Rb6.out.below b7
  have Rr27 : Hid (Row encP 2 w7 _ (mnL a b)) := Rr26.out.below b7
  have B7 : Hid (Below w.heap.size w w7) := B6.out.trans (b7.mono B6.out.size)
  clear Ra6 Rb6 Rr26 B6
  clear b7
  clear Rr27
  have C8 : Hid (Calls Try.prog 16 #[.slice aoa a.length capa, .slice aob b.length capb] w7 (Gives w7 (meL a b))) := by
    show Calls _ _ _ _ _
    have := meet_g _ _ a b w7 Ra7.out Rb7.out (by omega)
    exact this
  go_wp2_with fail
  refine Calls.mono C8.out ?_
  rintro e w8 ⟨aor3, nr3, cr3, rfl, rr3, b8⟩
  obtain ⟨_, _, kr3, _⟩ := id rr3
  cases kr3
  clear C8
  have Ra8 : Hid (Row encP 2 w8 _ a) := Ra7.out.below b8
  have Rb8 : Hid (Row encP 2 w8 _ b) := Rb7.out.below b8
  have B8 : Hid (Below w.heap.size w w8) := B7.out.trans (b8.mono B7.out.size)
  clear Ra7 Rb7 B7
  clear b8
  have Rr38 : Hid (Row encP 2 w8 _ (meL a b)) := rr3
  clear rr3
  have C9 : Hid (Calls Try.prog 20 #[.slice aor3 (meL a b).length cr3, .int .i64 n] w8 fun e w' => e = .returned (.bool false) ∧ Below w8.heap.size w8 w') := has_is _ (meL a b) n false w8 Rr38.out (by have := meL_length a b; omega) E3.out
  go_wp2_with fail
  refine Calls.mono C9.out ?_
  rintro e w9 ⟨rfl, b9⟩
  clear C9
  have Ra9 : Hid (Row encP 2 w9 _ a) := Ra8.out.below b9
  have Rb9 : Hid (Row encP 2 w9 _ b) := Rb8.out.below b9
  have Rr39 : Hid (Row encP 2 w9 _ (meL a b)) := Rr38.out.below b9
  have B9 : Hid (Below w.heap.size w w9) := B8.out.trans (b9.mono B8.out.size)
  clear Ra8 Rb8 Rr38 B8
  clear b9
  clear Rr39
  have C10 : Hid (Calls Try.prog 17 #[.slice aoa a.length capa, .int .i64 m] w9 (Gives w9 (unL a [(m, m)]))) := by
    show Calls _ _ _ _ _
    have := add_g _ a m w9 Ra9.out (by omega)
    exact this
  go_wp2_with fail
  refine Calls.mono C10.out ?_
  rintro e w10 ⟨aor4, nr4, cr4, rfl, rr4, b10⟩
  obtain ⟨_, _, kr4, _⟩ := id rr4
  cases kr4
  clear C10
  have Ra10 : Hid (Row encP 2 w10 _ a) := Ra9.out.below b10
  have Rb10 : Hid (Row encP 2 w10 _ b) := Rb9.out.below b10
  have B10 : Hid (Below w.heap.size w w10) := B9.out.trans (b10.mono B9.out.size)
  clear Ra9 Rb9 B9
  clear b10
  have Rr410 : Hid (Row encP 2 w10 _ (unL a [(m, m)])) := rr4
  clear rr4
  have C11 : Hid (Calls Try.prog 20 #[.slice aor4 (unL a [(m, m)]).length cr4, .int .i64 n] w10 fun e w' => e = .returned (.bool false) ∧ Below w10.heap.size w10 w') := has_is _ (unL a [(m, m)]) n false w10 Rr410.out (by have := len_one m; have := unL_length a [(m, m)]; omega) E4.out
  go_wp2_with fail
  refine Calls.mono C11.out ?_
  rintro e w11 ⟨rfl, b11⟩
  clear C11
  have Ra11 : Hid (Row encP 2 w11 _ a) := Ra10.out.below b11
  have Rb11 : Hid (Row encP 2 w11 _ b) := Rb10.out.below b11
  have Rr411 : Hid (Row encP 2 w11 _ (unL a [(m, m)])) := Rr410.out.below b11
  have B11 : Hid (Below w.heap.size w w11) := B10.out.trans (b11.mono B10.out.size)
  clear Ra10 Rb10 Rr410 B10
  clear b11
  clear Rr411
  have C12 : Hid (Calls Try.prog 18 #[.slice aoa a.length capa, .int .i64 m] w11 (Gives w11 (mnL a [(m, m)]))) := by
    show Calls _ _ _ _ _
    have := remove_g _ a m w11 Ra11.out (by omega)
    exact this
  go_wp2_with fail
  refine Calls.mono C12.out ?_
  rintro e w12 ⟨aor5, nr5, cr5, rfl, rr5, b12⟩
  obtain ⟨_, _, kr5, _⟩ := id rr5
  cases kr5
  clear C12
  have Ra12 : Hid (Row encP 2 w12 _ a) := Ra11.out.below b12
  have Rb12 : Hid (Row encP 2 w12 _ b) := Rb11.out.below b12
  have B12 : Hid (Below w.heap.size w w12) := B11.out.trans (b12.mono B11.out.size)
  clear Ra11 Rb11 B11
  clear b12
  have Rr512 : Hid (Row encP 2 w12 _ (mnL a [(m, m)])) := rr5
  clear rr5
  have C13 : Hid (Calls Try.prog 20 #[.slice aor5 (mnL a [(m, m)]).length cr5, .int .i64 n] w12 fun e w' => e = .returned (.bool false) ∧ Below w12.heap.size w12 w') := has_is _ (mnL a [(m, m)]) n false w12 Rr512.out (by have := len_one m; have := mnL_length a [(m, m)]; omega) E5.out
  go_wp2_with fail
  refine Calls.mono C13.out ?_
  rintro e w13 ⟨rfl, b13⟩
  clear C13
  have Ra13 : Hid (Row encP 2 w13 _ a) := Ra12.out.below b13
  have Rb13 : Hid (Row encP 2 w13 _ b) := Rb12.out.below b13
  have Rr513 : Hid (Row encP 2 w13 _ (mnL a [(m, m)])) := Rr512.out.below b13
  have B13 : Hid (Below w.heap.size w w13) := B12.out.trans (b13.mono B12.out.size)
  clear Ra12 Rb12 Rr512 B12
  clear b13
  clear Rr513
  have C14 : Hid (Calls Try.prog 13 #[.slice aoa a.length capa, .slice aob b.length capb] w13 (Gives w13 (unL a b))) := by
    show Calls _ _ _ _ _
    have := union_g _ _ a b w13 Ra13.out Rb13.out (by omega)
    exact this
  go_wp2_with fail
  refine Calls.mono C14.out ?_
  rintro e w14 ⟨aor6, nr6, cr6, rfl, rr6, b14⟩
  obtain ⟨_, _, kr6, _⟩ := id rr6
  cases kr6
  clear C14
  have Ra14 : Hid (Row encP 2 w14 _ a) := Ra13.out.below b14
  have Rb14 : Hid (Row encP 2 w14 _ b) := Rb13.out.below b14
  have B14 : Hid (Below w.heap.size w w14) := B13.out.trans (b14.mono B13.out.size)
  clear Ra13 Rb13 B13
  clear b14
  have Rr614 : Hid (Row encP 2 w14 _ (unL a b)) := rr6
  clear rr6
  have C15 : Hid (Calls Try.prog 22 #[.slice aor6 (unL a b).length cr6] w14 fun e w' => e = .returned (.int .i64 cu) ∧ Below w14.heap.size w14 w') := by show Calls _ _ _ _ _; have := count_cn _ _ w14 Rr614.out (unL_cn a b) (by have := unL_length a b; omega); rw [Hcu.out] at this; exact this
  go_wp2_with fail
  refine Calls.mono C15.out ?_
  rintro e w15 ⟨rfl, b15⟩
  clear C15
  have Ra15 : Hid (Row encP 2 w15 _ a) := Ra14.out.below b15
  have Rb15 : Hid (Row encP 2 w15 _ b) := Rb14.out.below b15
  have Rr615 : Hid (Row encP 2 w15 _ (unL a b)) := Rr614.out.below b15
  have B15 : Hid (Below w.heap.size w w15) := B14.out.trans (b15.mono B14.out.size)
  clear Ra14 Rb14 Rr614 B14
  clear b15
  clear Rr615
  have C16 : Hid (Calls Try.prog 16 #[.slice aoa a.length capa, .slice aob b.length capb] w15 (Gives w15 (meL a b))) := by
    show Calls _ _ _ _ _
    have := meet_g _ _ a b w15 Ra15.out Rb15.out (by omega)
    exact this
  go_wp2_with fail
  refine Calls.mono C16.out ?_
  rintro e w16 ⟨aor7, nr7, cr7, rfl, rr7, b16⟩
  obtain ⟨_, _, kr7, _⟩ := id rr7
  cases kr7
  clear C16
  have Ra16 : Hid (Row encP 2 w16 _ a) := Ra15.out.below b16
  have Rb16 : Hid (Row encP 2 w16 _ b) := Rb15.out.below b16
  have B16 : Hid (Below w.heap.size w w16) := B15.out.trans (b16.mono B15.out.size)
  clear Ra15 Rb15 B15
  clear b16
  have Rr716 : Hid (Row encP 2 w16 _ (meL a b)) := rr7
  clear rr7
  have C17 : Hid (Calls Try.prog 22 #[.slice aor7 (meL a b).length cr7] w16 fun e w' => e = .returned (.int .i64 cm) ∧ Below w16.heap.size w16 w') := by show Calls _ _ _ _ _; have := count_cn _ _ w16 Rr716.out (meL_cn a b) (by have := meL_length a b; omega); rw [Hcm.out] at this; exact this
  go_wp2_with fail
  refine Calls.mono C17.out ?_
  rintro e w17 ⟨rfl, b17⟩
  clear C17
  have Ra17 : Hid (Row encP 2 w17 _ a) := Ra16.out.below b17
  have Rb17 : Hid (Row encP 2 w17 _ b) := Rb16.out.below b17
  have Rr717 : Hid (Row encP 2 w17 _ (meL a b)) := Rr716.out.below b17
  have B17 : Hid (Below w.heap.size w w17) := B16.out.trans (b17.mono B16.out.size)
  clear Ra16 Rb16 Rr716 B16
  clear b17
  clear Rr717
  have C18 : Hid (Calls Try.prog 22 #[.slice aoa a.length capa] w17 fun e w' => e = .returned (.int .i64 ca) ∧ Below w17.heap.size w17 w') := by show Calls _ _ _ _ _; have := count_any _ _ w17 Ra17.out (by omega); rw [Hca.out] at this; exact this
  go_wp2_with fail
  refine Calls.mono C18.out ?_
  rintro e w18 ⟨rfl, b18⟩
  clear C18
  have Ra18 : Hid (Row encP 2 w18 _ a) := Ra17.out.below b18
  have Rb18 : Hid (Row encP 2 w18 _ b) := Rb17.out.below b18
  have B18 : Hid (Below w.heap.size w w18) := B17.out.trans (b18.mono B17.out.size)
  clear Ra17 Rb17 B17
  clear b18
  have C19 : Hid (Calls Try.prog 22 #[.slice aob b.length capb] w18 fun e w' => e = .returned (.int .i64 cb) ∧ Below w18.heap.size w18 w') := by show Calls _ _ _ _ _; have := count_any _ _ w18 Rb18.out (by omega); rw [Hcb.out] at this; exact this
  go_wp2_with fail
  refine Calls.mono C19.out ?_
  rintro e w19 ⟨rfl, b19⟩
  clear C19
  have Ra19 : Hid (Row encP 2 w19 _ a) := Ra18.out.below b19
  have Rb19 : Hid (Row encP 2 w19 _ b) := Rb18.out.below b19
  have B19 : Hid (Below w.heap.size w w19) := B18.out.trans (b19.mono B18.out.size)
  clear Ra18 Rb18 B18
  clear b19
  go_wp2
  go_ret
  exact ⟨rfl, B19.out⟩

theorem logic.short (va : Value) (a : List Pr) (vb : Value) (b : List Pr) (n : Int) (m : Int) (w : World) (ha : Row encP 2 w va a) (hb : Row encP 2 w vb b) (la : a.length ≤ 40) (lb : b.length ≤ 40) : Calls Try.prog 5 #[va, vb, .int .i64 n, .int .i64 m] w fun e w' => e = .returned (.bool true) ∧ Below w.heap.size w w' := by
  by_cases t0 : 0 ≤ n
  · by_cases t1 : n ≤ 4294967295
    · cases hx : hasB a n with
      | true =>
        cases hy : hasB b n with
        | true =>
          by_cases he : n = m
          · exact logic.c0 va a vb b n m w ha hb la lb hx hy t0 t1 he
          · exact logic.c1 va a vb b n m w ha hb la lb hx hy t0 t1 he
        | false =>
          by_cases he : n = m
          · exact logic.c2 va a vb b n m w ha hb la lb hx hy t0 t1 he
          · exact logic.c3 va a vb b n m w ha hb la lb hx hy t0 t1 he
      | false =>
        cases hy : hasB b n with
        | true =>
          by_cases he : n = m
          · exact logic.c4 va a vb b n m w ha hb la lb hx hy t0 t1 he
          · exact logic.c5 va a vb b n m w ha hb la lb hx hy t0 t1 he
        | false =>
          by_cases he : n = m
          · exact logic.c6 va a vb b n m w ha hb la lb hx hy t0 t1 he
          · exact logic.c7 va a vb b n m w ha hb la lb hx hy t0 t1 he
    · have hx : hasB a n = false := hasB_no fun k => t1 k.2.1
      have hy : hasB b n = false := hasB_no fun k => t1 k.2.1
      by_cases he : n = m
      · exact logic.c10 va a vb b n m w ha hb la lb hx hy t0 t1 he
      · exact logic.c11 va a vb b n m w ha hb la lb hx hy t0 t1 he
  · have hx : hasB a n = false := hasB_no fun k => t0 k.1
    have hy : hasB b n = false := hasB_no fun k => t0 k.1
    by_cases he : n = m
    · exact logic.c8 va a vb b n m w ha hb la lb hx hy t0 he
    · exact logic.c9 va a vb b n m w ha hb la lb hx hy t0 he

theorem logic (va : Value) (a : List Pr) (vb : Value) (b : List Pr) (n : Int) (m : Int) (w : World) (ha : Row encP 2 w va a) (hb : Row encP 2 w vb b) (_bn : -9223372036854775808 ≤ n ∧ n ≤ 9223372036854775807) (_bm : -9223372036854775808 ≤ m ∧ m ≤ 9223372036854775807) : Calls Try.prog 5 #[va, vb, .int .i64 n, .int .i64 m] w fun e w' => e = .returned (.bool true) ∧ Below w.heap.size w w' := by
  by_cases la : a.length ≤ 40
  rotate_left
  · exact logic.long_a va a vb b n m w ha hb  (by omega)
  by_cases lb : b.length ≤ 40
  rotate_left
  · exact logic.long_b va a vb b n m w ha hb la (by omega)
  exact logic.short va a vb b n m w ha hb la lb

end Go.Proofs.Ytoigljefajbofaa

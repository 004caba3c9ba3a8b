/-
  The walk of the law RunsSets.
-/
import Derived.Test.YtoigljefajbofaaRnLaw
namespace Go.Proofs.Ytoigljefajbofaa
open Go.Shelf Go.RowKit Go.Lib Go.Sort

set_option maxRecDepth 100000 in
set_option maxHeartbeats 4000000 in
theorem sets.long_a (va : Value) (a : List Pr) (vb : Value) (b : List Pr) (n : Int) (w : World) (ha : Row encP 2 w va a) (hb : Row encP 2 w vb b) (la : 40 < a.length) : Calls Try.prog 3 #[va, vb, .int .i64 n] w fun e w' => e = .returned (.bool true) ∧ Below w.heap.size w w' := by
  obtain ⟨aoa, capa, rfl, _⟩ := id ha
  obtain ⟨aob, capb, rfl, _⟩ := id hb
  have ia : (40 : Int) < (a.length : Int) := by omega
  clear ha hb
  go_enter Try.func3, Try.ntmps3
  go_wp2_with fail
  refine (works_any _).mono ?_
  rintro e w1 ⟨rfl, b1⟩
  go_wp2
  go_ret
  exact ⟨rfl, b1⟩

set_option maxRecDepth 100000 in
set_option maxHeartbeats 4000000 in
theorem sets.long_b (va : Value) (a : List Pr) (vb : Value) (b : List Pr) (n : Int) (w : World) (ha : Row encP 2 w va a) (hb : Row encP 2 w vb b) (la : a.length ≤ 40) (lb : 40 < b.length) : Calls Try.prog 3 #[va, vb, .int .i64 n] w fun e w' => e = .returned (.bool true) ∧ Below w.heap.size w w' := by
  obtain ⟨aoa, capa, rfl, _⟩ := id ha
  obtain ⟨aob, capb, rfl, _⟩ := id hb
  have ia : ¬ (40 : Int) < (a.length : Int) := by omega
  have ib : (40 : Int) < (b.length : Int) := by omega
  clear ha hb
  go_enter Try.func3, Try.ntmps3
  go_wp2_with fail
  refine (works_any _).mono ?_
  rintro e w1 ⟨rfl, b1⟩
  go_wp2
  go_ret
  exact ⟨rfl, b1⟩

set_option maxRecDepth 100000 in
set_option maxHeartbeats 4000000 in
theorem sets.short (va : Value) (a : List Pr) (vb : Value) (b : List Pr) (n : Int) (w : World) (ha : Row encP 2 w va a) (hb : Row encP 2 w vb b) (la : a.length ≤ 40) (lb : b.length ≤ 40) : Calls Try.prog 3 #[va, vb, .int .i64 n] w fun e w' => e = .returned (.bool true) ∧ Below w.heap.size w w' := by
  have Ra0 : Hid (Row encP 2 w va a) := ha
  obtain ⟨aoa, capa, rfl, _⟩ := id ha
  have Rb0 : Hid (Row encP 2 w vb b) := hb
  obtain ⟨aob, capb, rfl, _⟩ := id hb
  clear ha hb
  have B0 : Hid (Below w.heap.size w w) := Below.refl _ _
  have ia : ¬ (40 : Int) < (a.length : Int) := by omega
  have ib : ¬ (40 : Int) < (b.length : Int) := by omega
  go_enter Try.func3, Try.ntmps3
  have C1 : Hid (Calls Try.prog 9 #[] w fun e w' => e = .returned (.bool true) ∧ Below w.heap.size w w') := works_any w
  go_wp2_with fail
  refine Calls.mono C1.out ?_
  rintro e w1 ⟨rfl, b1⟩
  clear C1
  have Ra1 : Hid (Row encP 2 w1 _ a) := Ra0.out.below b1
  have Rb1 : Hid (Row encP 2 w1 _ b) := Rb0.out.below b1
  have B1 : Hid (Below w.heap.size w w1) := B0.out.trans (b1.mono B0.out.size)
  clear Ra0 Rb0 B0
  clear b1
  go_wp2_with (at_builtin; refine app_rowP rfl _ _ rfl w1.heap.size _ [] rfl (OwnP.empty _ _) _ a rfl (Ra1.out.below (Below.refl w1.heap.size w1)) (by simp only [List.length_nil]; omega) ((Below.refl w1.heap.size w1).size) a (List.nil_append a) ?_)
  intro ax2 nx2 cx2 w2 HO2 HB2
  have OX2 : Aside (OwnP w1.heap.size w2 (.slice ax2 nx2 cx2) a) := HO2
  have K2 : Hid (Below w1.heap.size w1 w2) := HB2 _ (Below.refl w1.heap.size w1)
  clear HO2 HB2
  obtain ⟨bothL, hbothL⟩ : ∃ L, a ++ b = L := ⟨_, rfl⟩
  have HbothL : Hid (a ++ b = bothL) := hbothL
  have lzbothL : bothL.length ≤ 80 := by rw [← hbothL, List.length_append]; omega
  clear hbothL
  go_wp2_with (at_builtin; refine app_rowP rfl _ _ rfl w1.heap.size _ a rfl OX2.out _ b rfl (Rb1.out.below K2.out) (by omega) (K2.out.size) bothL HbothL.out ?_)
  intro ax3 nx3 cx3 w3 HO3 HB3
  have OX3 : Aside (OwnP w1.heap.size w3 (.slice ax3 nx3 cx3) bothL) := HO3
  have K3 : Hid (Below w1.heap.size w1 w3) := HB3 _ K2.out
  clear HO3 HB3
  have Ra3 : Hid (Row encP 2 w3 _ a) := Ra1.out.below K3.out
  have Rb3 : Hid (Row encP 2 w3 _ b) := Rb1.out.below K3.out
  have B3 : Hid (Below w.heap.size w w3) := B1.out.trans (K3.out.mono B1.out.size)
  have Rboth3 : Hid (Row encP 2 w3 _ bothL) := OX3.out.own.row
  obtain ⟨_, _, ezboth, _⟩ := OX3.out.own
  cases ezboth
  clear Ra1 Rb1 B1 OX2 K2 OX3 K3
  have C4 : Hid (Calls Try.prog 11 #[.slice aoa a.length capa] w3 (Gives w3 (nmL a))) := by
    show Calls _ _ _ _ _
    have := norm_g _ a w3 Ra3.out (by omega)
    exact this
  go_wp2_with fail
  refine Calls.mono C4.out ?_
  rintro e w4 ⟨aor1, nr1, cr1, rfl, rr1, b4⟩
  obtain ⟨_, _, kr1, _⟩ := id rr1
  cases kr1
  clear C4
  have Ra4 : Hid (Row encP 2 w4 _ a) := Ra3.out.below b4
  have Rb4 : Hid (Row encP 2 w4 _ b) := Rb3.out.below b4
  have Rboth4 : Hid (Row encP 2 w4 _ bothL) := Rboth3.out.below b4
  have B4 : Hid (Below w.heap.size w w4) := B3.out.trans (b4.mono B3.out.size)
  clear Ra3 Rb3 Rboth3 B3
  clear b4
  have Rr14 : Hid (Row encP 2 w4 _ (nmL a)) := rr1
  clear rr1
  have C5 : Hid (Calls Try.prog 12 #[.slice aoa a.length capa] w4 (Gives w4 (nmL a))) := by
    show Calls _ _ _ _ _
    have := rnorm_g _ a w4 Ra4.out (by omega)
    exact this
  go_wp2_with fail
  refine Calls.mono C5.out ?_
  rintro e w5 ⟨aor2, nr2, cr2, rfl, rr2, b5⟩
  obtain ⟨_, _, kr2, _⟩ := id rr2
  cases kr2
  clear C5
  have Ra5 : Hid (Row encP 2 w5 _ a) := Ra4.out.below b5
  have Rb5 : Hid (Row encP 2 w5 _ b) := Rb4.out.below b5
  have Rboth5 : Hid (Row encP 2 w5 _ bothL) := Rboth4.out.below b5
  have Rr15 : Hid (Row encP 2 w5 _ (nmL a)) := Rr14.out.below b5
  have B5 : Hid (Below w.heap.size w w5) := B4.out.trans (b5.mono B4.out.size)
  clear Ra4 Rb4 Rboth4 Rr14 B4
  clear b5
  have Rr25 : Hid (Row encP 2 w5 _ (nmL a)) := rr2
  clear rr2
  have C6 : Hid (Calls Try.prog 10 #[.slice aor1 (nmL a).length cr1, .slice aor2 (nmL a).length cr2] w5 fun e w' => e = .returned (.bool true) ∧ Below w5.heap.size w5 w') := same_eq _ _ (nmL a) (nmL a) w5 Rr15.out Rr25.out (by have := nmL_length a; omega) (rfl)
  go_wp2_with fail
  refine Calls.mono C6.out ?_
  rintro e w6 ⟨rfl, b6⟩
  clear C6
  have Ra6 : Hid (Row encP 2 w6 _ a) := Ra5.out.below b6
  have Rb6 : Hid (Row encP 2 w6 _ b) := Rb5.out.below b6
  have Rboth6 : Hid (Row encP 2 w6 _ bothL) := Rboth5.out.below b6
  have Rr16 : Hid (Row encP 2 w6 _ (nmL a)) := Rr15.out.below b6
  have Rr26 : Hid (Row encP 2 w6 _ (nmL a)) := Rr25.out.below b6
  have B6 : Hid (Below w.heap.size w w6) := B5.out.trans (b6.mono B5.out.size)
  clear Ra5 Rb5 Rboth5 Rr15 Rr25 B5
  clear b6
  clear Rr16 Rr26
  have C7 : Hid (Calls Try.prog 13 #[.slice aoa a.length capa, .slice aob b.length capb] w6 (Gives w6 (unL a b))) := by
    show Calls _ _ _ _ _
    have := union_g _ _ a b w6 Ra6.out Rb6.out (by omega)
    exact this
  go_wp2_with fail
  refine Calls.mono C7.out ?_
  rintro e w7 ⟨aor3, nr3, cr3, rfl, rr3, b7⟩
  obtain ⟨_, _, kr3, _⟩ := id rr3
  cases kr3
  clear C7
  have Ra7 : Hid (Row encP 2 w7 _ a) := Ra6.out.below b7
  have Rb7 : Hid (Row encP 2 w7 _ b) := Rb6.out.below b7
  have Rboth7 : Hid (Row encP 2 w7 _ bothL) := Rboth6.out.below b7
  have B7 : Hid (Below w.heap.size w w7) := B6.out.trans (b7.mono B6.out.size)
  clear Ra6 Rb6 Rboth6 B6
  clear b7
  have Rr37 : Hid (Row encP 2 w7 _ (unL a b)) := rr3
  clear rr3
  have C8 : Hid (Calls Try.prog 12 #[.slice ax3 bothL.length cx3] w7 (Gives w7 (nmL bothL))) := by
    show Calls _ _ _ _ _
    have := rnorm_g _ bothL w7 Rboth7.out (by omega)
    exact this
  go_wp2_with fail
  refine Calls.mono C8.out ?_
  rintro e w8 ⟨aor4, nr4, cr4, rfl, rr4, b8⟩
  obtain ⟨_, _, kr4, _⟩ := id rr4
  cases kr4
  clear C8
  have Ra8 : Hid (Row encP 2 w8 _ a) := Ra7.out.below b8
  have Rb8 : Hid (Row encP 2 w8 _ b) := Rb7.out.below b8
  have Rboth8 : Hid (Row encP 2 w8 _ bothL) := Rboth7.out.below b8
  have Rr38 : Hid (Row encP 2 w8 _ (unL a b)) := Rr37.out.below b8
  have B8 : Hid (Below w.heap.size w w8) := B7.out.trans (b8.mono B7.out.size)
  clear Ra7 Rb7 Rboth7 Rr37 B7
  clear b8
  have Rr48 : Hid (Row encP 2 w8 _ (nmL bothL)) := rr4
  clear rr4
  clear Rboth8
  have C9 : Hid (Calls Try.prog 10 #[.slice aor3 (unL a b).length cr3, .slice aor4 (nmL bothL).length cr4] w8 fun e w' => e = .returned (.bool true) ∧ Below w8.heap.size w8 w') := same_eq _ _ (unL a b) (nmL bothL) w8 Rr38.out Rr48.out (by have := unL_length a b; omega) (by show nmL (a ++ b) = nmL bothL; rw [HbothL.out])
  go_wp2_with fail
  refine Calls.mono C9.out ?_
  rintro e w9 ⟨rfl, b9⟩
  clear C9
  have Ra9 : Hid (Row encP 2 w9 _ a) := Ra8.out.below b9
  have Rb9 : Hid (Row encP 2 w9 _ b) := Rb8.out.below b9
  have Rr39 : Hid (Row encP 2 w9 _ (unL a b)) := Rr38.out.below b9
  have Rr49 : Hid (Row encP 2 w9 _ (nmL bothL)) := Rr48.out.below b9
  have B9 : Hid (Below w.heap.size w w9) := B8.out.trans (b9.mono B8.out.size)
  clear Ra8 Rb8 Rr38 Rr48 B8
  clear b9
  clear Rr39 Rr49
  have C10 : Hid (Calls Try.prog 14 #[.slice aoa a.length capa, .slice aob b.length capb] w9 (Gives w9 (mnL a b))) := by
    show Calls _ _ _ _ _
    have := rminus_g _ _ a b w9 Ra9.out Rb9.out (by omega)
    exact this
  go_wp2_with fail
  refine Calls.mono C10.out ?_
  rintro e w10 ⟨aoonly, nonly, conly, rfl, ronly, b10⟩
  obtain ⟨_, _, konly, _⟩ := id ronly
  cases konly
  clear C10
  have Ra10 : Hid (Row encP 2 w10 _ a) := Ra9.out.below b10
  have Rb10 : Hid (Row encP 2 w10 _ b) := Rb9.out.below b10
  have B10 : Hid (Below w.heap.size w w10) := B9.out.trans (b10.mono B9.out.size)
  clear Ra9 Rb9 B9
  clear b10
  have Ronly10 : Hid (Row encP 2 w10 _ (mnL a b)) := ronly
  clear ronly
  have C11 : Hid (Calls Try.prog 15 #[.slice aoa a.length capa, .slice aob b.length capb] w10 (Gives w10 (mnL a b))) := by
    show Calls _ _ _ _ _
    have := minus_g _ _ a b w10 Ra10.out Rb10.out (by omega)
    exact this
  go_wp2_with fail
  refine Calls.mono C11.out ?_
  rintro e w11 ⟨aor5, nr5, cr5, rfl, rr5, b11⟩
  obtain ⟨_, _, kr5, _⟩ := id rr5
  cases kr5
  clear C11
  have Ra11 : Hid (Row encP 2 w11 _ a) := Ra10.out.below b11
  have Rb11 : Hid (Row encP 2 w11 _ b) := Rb10.out.below b11
  have Ronly11 : Hid (Row encP 2 w11 _ (mnL a b)) := Ronly10.out.below b11
  have B11 : Hid (Below w.heap.size w w11) := B10.out.trans (b11.mono B10.out.size)
  clear Ra10 Rb10 Ronly10 B10
  clear b11
  have Rr511 : Hid (Row encP 2 w11 _ (mnL a b)) := rr5
  clear rr5
  have C12 : Hid (Calls Try.prog 10 #[.slice aor5 (mnL a b).length cr5, .slice aoonly (mnL a b).length conly] w11 fun e w' => e = .returned (.bool true) ∧ Below w11.heap.size w11 w') := same_eq _ _ (mnL a b) (mnL a b) w11 Rr511.out Ronly11.out (by have := mnL_length a b; omega) (rfl)
  go_wp2_with fail
  refine Calls.mono C12.out ?_
  rintro e w12 ⟨rfl, b12⟩
  clear C12
  have Ra12 : Hid (Row encP 2 w12 _ a) := Ra11.out.below b12
  have Rb12 : Hid (Row encP 2 w12 _ b) := Rb11.out.below b12
  have Ronly12 : Hid (Row encP 2 w12 _ (mnL a b)) := Ronly11.out.below b12
  have Rr512 : Hid (Row encP 2 w12 _ (mnL a b)) := Rr511.out.below b12
  have B12 : Hid (Below w.heap.size w w12) := B11.out.trans (b12.mono B11.out.size)
  clear Ra11 Rb11 Ronly11 Rr511 B11
  clear b12
  clear Rr512
  have C13 : Hid (Calls Try.prog 16 #[.slice aoa a.length capa, .slice aob b.length capb] w12 (Gives w12 (meL a b))) := by
    show Calls _ _ _ _ _
    have := meet_g _ _ a b w12 Ra12.out Rb12.out (by omega)
    exact this
  go_wp2_with fail
  refine Calls.mono C13.out ?_
  rintro e w13 ⟨aor6, nr6, cr6, rfl, rr6, b13⟩
  obtain ⟨_, _, kr6, _⟩ := id rr6
  cases kr6
  clear C13
  have Ra13 : Hid (Row encP 2 w13 _ a) := Ra12.out.below b13
  have Rb13 : Hid (Row encP 2 w13 _ b) := Rb12.out.below b13
  have Ronly13 : Hid (Row encP 2 w13 _ (mnL a b)) := Ronly12.out.below b13
  have B13 : Hid (Below w.heap.size w w13) := B12.out.trans (b13.mono B12.out.size)
  clear Ra12 Rb12 Ronly12 B12
  clear b13
  have Rr613 : Hid (Row encP 2 w13 _ (meL a b)) := rr6
  clear rr6
  have C14 : Hid (Calls Try.prog 14 #[.slice aoa a.length capa, .slice aoonly (mnL a b).length conly] w13 (Gives w13 (mnL a (mnL a b)))) := by
    show Calls _ _ _ _ _
    have := rminus_g _ _ a (mnL a b) w13 Ra13.out Ronly13.out (by have := mnL_length a b; omega)
    exact this
  go_wp2_with fail
  refine Calls.mono C14.out ?_
  rintro e w14 ⟨aor7, nr7, cr7, rfl, rr7, b14⟩
  obtain ⟨_, _, kr7, _⟩ := id rr7
  cases kr7
  clear C14
  have Ra14 : Hid (Row encP 2 w14 _ a) := Ra13.out.below b14
  have Rb14 : Hid (Row encP 2 w14 _ b) := Rb13.out.below b14
  have Ronly14 : Hid (Row encP 2 w14 _ (mnL a b)) := Ronly13.out.below b14
  have Rr614 : Hid (Row encP 2 w14 _ (meL a b)) := Rr613.out.below b14
  have B14 : Hid (Below w.heap.size w w14) := B13.out.trans (b14.mono B13.out.size)
  clear Ra13 Rb13 Ronly13 Rr613 B13
  clear b14
  have Rr714 : Hid (Row encP 2 w14 _ (mnL a (mnL a b))) := rr7
  clear rr7
  clear Ronly14
  have C15 : Hid (Calls Try.prog 10 #[.slice aor6 (meL a b).length cr6, .slice aor7 (mnL a (mnL a b)).length cr7] w14 fun e w' => e = .returned (.bool true) ∧ Below w14.heap.size w14 w') := same_eq _ _ (meL a b) (mnL a (mnL a b)) w14 Rr614.out Rr714.out (by have := meL_length a b; omega) (rfl)
  go_wp2_with fail
  refine Calls.mono C15.out ?_
  rintro e w15 ⟨rfl, b15⟩
  clear C15
  have Ra15 : Hid (Row encP 2 w15 _ a) := Ra14.out.below b15
  have Rb15 : Hid (Row encP 2 w15 _ b) := Rb14.out.below b15
  have Rr615 : Hid (Row encP 2 w15 _ (meL a b)) := Rr614.out.below b15
  have Rr715 : Hid (Row encP 2 w15 _ (mnL a (mnL a b))) := Rr714.out.below b15
  have B15 : Hid (Below w.heap.size w w15) := B14.out.trans (b15.mono B14.out.size)
  clear Ra14 Rb14 Rr614 Rr714 B14
  clear b15
  clear Rr615 Rr715
  have LP : Hid (Below w15.heap.size w15 (w15.alloc (.cells #[.int .i64 n, .int .i64 n] 29))) := (Below.refl _ w15).alloc (Nat.le_refl _) _
  have QP : Hid (Row encP 2 (w15.alloc (.cells #[.int .i64 n, .int .i64 n] 29)) (.slice (some ⟨w15.heap.size, 0, none⟩) 1 1) [(n, n)]) := row_block (cs := #[.int .i64 n, .int .i64 n]) (heap_alloc_new _ _) (flat_one (n, n)) rfl
  go_upto_region 14 with fail
  generalize w15.alloc (.cells #[.int .i64 n, .int .i64 n] 29) = w16 at LP QP ⊢
  have Ra16 : Hid (Row encP 2 w16 _ a) := Ra15.out.below LP.out
  have Rb16 : Hid (Row encP 2 w16 _ b) := Rb15.out.below LP.out
  have B16 : Hid (Below w.heap.size w w16) := B15.out.trans (LP.out.mono B15.out.size)
  clear Ra15 Rb15 B15
  clear LP
  have Rp16 : Hid (Row encP 2 w16 _ [(n, n)]) := QP
  clear QP
  go_wp2_with (at_builtin; refine app_rowP rfl _ _ rfl w16.heap.size _ [] rfl (OwnP.empty _ _) _ a rfl (Ra16.out.below (Below.refl w16.heap.size w16)) (by simp only [List.length_nil]; omega) ((Below.refl w16.heap.size w16).size) a (List.nil_append a) ?_)
  intro ax17 nx17 cx17 w17 HO17 HB17
  have OX17 : Aside (OwnP w16.heap.size w17 (.slice ax17 nx17 cx17) a) := HO17
  have K17 : Hid (Below w16.heap.size w16 w17) := HB17 _ (Below.refl w16.heap.size w16)
  clear HO17 HB17
  obtain ⟨wiL, hwiL⟩ : ∃ L, a ++ [(n, n)] = L := ⟨_, rfl⟩
  have HwiL : Hid (a ++ [(n, n)] = wiL) := hwiL
  have lzwiL : wiL.length ≤ 80 := by rw [← hwiL, List.length_append]; have := len_one n; omega
  clear hwiL
  go_wp2_with (at_builtin; refine app_rowP rfl _ _ rfl w16.heap.size _ a rfl OX17.out _ [(n, n)] rfl (Rp16.out.below K17.out) (by have := len_one n; omega) (K17.out.size) wiL HwiL.out ?_)
  intro ax18 nx18 cx18 w18 HO18 HB18
  have OX18 : Aside (OwnP w16.heap.size w18 (.slice ax18 nx18 cx18) wiL) := HO18
  have K18 : Hid (Below w16.heap.size w16 w18) := HB18 _ K17.out
  clear HO18 HB18
  have Ra18 : Hid (Row encP 2 w18 _ a) := Ra16.out.below K18.out
  have Rb18 : Hid (Row encP 2 w18 _ b) := Rb16.out.below K18.out
  have Rp18 : Hid (Row encP 2 w18 _ [(n, n)]) := Rp16.out.below K18.out
  have B18 : Hid (Below w.heap.size w w18) := B16.out.trans (K18.out.mono B16.out.size)
  have Rwi18 : Hid (Row encP 2 w18 _ wiL) := OX18.out.own.row
  obtain ⟨_, _, ezwi, _⟩ := OX18.out.own
  cases ezwi
  clear Ra16 Rb16 Rp16 B16 OX17 K17 OX18 K18
  have C19 : Hid (Calls Try.prog 17 #[.slice aoa a.length capa, .int .i64 n] w18 (Gives w18 (unL a [(n, n)]))) := by
    show Calls _ _ _ _ _
    have := add_g _ a n w18 Ra18.out (by omega)
    exact this
  go_wp2_with fail
  refine Calls.mono C19.out ?_
  rintro e w19 ⟨aor8, nr8, cr8, rfl, rr8, b19⟩
  obtain ⟨_, _, kr8, _⟩ := id rr8
  cases kr8
  clear C19
  have Ra19 : Hid (Row encP 2 w19 _ a) := Ra18.out.below b19
  have Rb19 : Hid (Row encP 2 w19 _ b) := Rb18.out.below b19
  have Rp19 : Hid (Row encP 2 w19 _ [(n, n)]) := Rp18.out.below b19
  have Rwi19 : Hid (Row encP 2 w19 _ wiL) := Rwi18.out.below b19
  have B19 : Hid (Below w.heap.size w w19) := B18.out.trans (b19.mono B18.out.size)
  clear Ra18 Rb18 Rp18 Rwi18 B18
  clear b19
  have Rr819 : Hid (Row encP 2 w19 _ (unL a [(n, n)])) := rr8
  clear rr8
  have C20 : Hid (Calls Try.prog 12 #[.slice ax18 wiL.length cx18] w19 (Gives w19 (nmL wiL))) := by
    show Calls _ _ _ _ _
    have := rnorm_g _ wiL w19 Rwi19.out (by omega)
    exact this
  go_wp2_with fail
  refine Calls.mono C20.out ?_
  rintro e w20 ⟨aor9, nr9, cr9, rfl, rr9, b20⟩
  obtain ⟨_, _, kr9, _⟩ := id rr9
  cases kr9
  clear C20
  have Ra20 : Hid (Row encP 2 w20 _ a) := Ra19.out.below b20
  have Rb20 : Hid (Row encP 2 w20 _ b) := Rb19.out.below b20
  have Rp20 : Hid (Row encP 2 w20 _ [(n, n)]) := Rp19.out.below b20
  have Rwi20 : Hid (Row encP 2 w20 _ wiL) := Rwi19.out.below b20
  have Rr820 : Hid (Row encP 2 w20 _ (unL a [(n, n)])) := Rr819.out.below b20
  have B20 : Hid (Below w.heap.size w w20) := B19.out.trans (b20.mono B19.out.size)
  clear Ra19 Rb19 Rp19 Rwi19 Rr819 B19
  clear b20
  have Rr920 : Hid (Row encP 2 w20 _ (nmL wiL)) := rr9
  clear rr9
  clear Rwi20
  have C21 : Hid (Calls Try.prog 10 #[.slice aor8 (unL a [(n, n)]).length cr8, .slice aor9 (nmL wiL).length cr9] w20 fun e w' => e = .returned (.bool true) ∧ Below w20.heap.size w20 w') := same_eq _ _ (unL a [(n, n)]) (nmL wiL) w20 Rr820.out Rr920.out (by have := len_one n; have := unL_length a [(n, n)]; omega) (by show nmL (a ++ [(n, n)]) = nmL wiL; rw [HwiL.out])
  go_wp2_with fail
  refine Calls.mono C21.out ?_
  rintro e w21 ⟨rfl, b21⟩
  clear C21
  have Ra21 : Hid (Row encP 2 w21 _ a) := Ra20.out.below b21
  have Rb21 : Hid (Row encP 2 w21 _ b) := Rb20.out.below b21
  have Rp21 : Hid (Row encP 2 w21 _ [(n, n)]) := Rp20.out.below b21
  have Rr821 : Hid (Row encP 2 w21 _ (unL a [(n, n)])) := Rr820.out.below b21
  have Rr921 : Hid (Row encP 2 w21 _ (nmL wiL)) := Rr920.out.below b21
  have B21 : Hid (Below w.heap.size w w21) := B20.out.trans (b21.mono B20.out.size)
  clear Ra20 Rb20 Rp20 Rr820 Rr920 B20
  clear b21
  clear Rr821 Rr921
  have C22 : Hid (Calls Try.prog 18 #[.slice aoa a.length capa, .int .i64 n] w21 (Gives w21 (mnL a [(n, n)]))) := by
    show Calls _ _ _ _ _
    have := remove_g _ a n w21 Ra21.out (by omega)
    exact this
  go_wp2_with fail
  refine Calls.mono C22.out ?_
  rintro e w22 ⟨aora, nra, cra, rfl, rra, b22⟩
  obtain ⟨_, _, kra, _⟩ := id rra
  cases kra
  clear C22
  have Ra22 : Hid (Row encP 2 w22 _ a) := Ra21.out.below b22
  have Rb22 : Hid (Row encP 2 w22 _ b) := Rb21.out.below b22
  have Rp22 : Hid (Row encP 2 w22 _ [(n, n)]) := Rp21.out.below b22
  have B22 : Hid (Below w.heap.size w w22) := B21.out.trans (b22.mono B21.out.size)
  clear Ra21 Rb21 Rp21 B21
  clear b22
  have Rra22 : Hid (Row encP 2 w22 _ (mnL a [(n, n)])) := rra
  clear rra
  have C23 : Hid (Calls Try.prog 14 #[.slice aoa a.length capa, .slice (some ⟨w15.heap.size, 0, none⟩) 1 1] w22 (Gives w22 (mnL a [(n, n)]))) := by
    show Calls _ _ _ _ _
    have := rminus_g _ _ a [(n, n)] w22 Ra22.out Rp22.out (by have := len_one n; omega)
    exact this
  go_wp2_with fail
  refine Calls.mono C23.out ?_
  rintro e w23 ⟨aorb, nrb, crb, rfl, rrb, b23⟩
  obtain ⟨_, _, krb, _⟩ := id rrb
  cases krb
  clear C23
  have Ra23 : Hid (Row encP 2 w23 _ a) := Ra22.out.below b23
  have Rb23 : Hid (Row encP 2 w23 _ b) := Rb22.out.below b23
  have Rp23 : Hid (Row encP 2 w23 _ [(n, n)]) := Rp22.out.below b23
  have Rra23 : Hid (Row encP 2 w23 _ (mnL a [(n, n)])) := Rra22.out.below b23
  have B23 : Hid (Below w.heap.size w w23) := B22.out.trans (b23.mono B22.out.size)
  clear Ra22 Rb22 Rp22 Rra22 B22
  clear b23
  have Rrb23 : Hid (Row encP 2 w23 _ (mnL a [(n, n)])) := rrb
  clear rrb
  have C24 : Hid (Calls Try.prog 10 #[.slice aora (mnL a [(n, n)]).length cra, .slice aorb (mnL a [(n, n)]).length crb] w23 fun e w' => e = .returned (.bool true) ∧ Below w23.heap.size w23 w') := same_eq _ _ (mnL a [(n, n)]) (mnL a [(n, n)]) w23 Rra23.out Rrb23.out (by have := len_one n; have := mnL_length a [(n, n)]; omega) (rfl)
  go_wp2_with fail
  refine Calls.mono C24.out ?_
  rintro e w24 ⟨rfl, b24⟩
  clear C24
  have Ra24 : Hid (Row encP 2 w24 _ a) := Ra23.out.below b24
  have Rb24 : Hid (Row encP 2 w24 _ b) := Rb23.out.below b24
  have Rp24 : Hid (Row encP 2 w24 _ [(n, n)]) := Rp23.out.below b24
  have Rra24 : Hid (Row encP 2 w24 _ (mnL a [(n, n)])) := Rra23.out.below b24
  have Rrb24 : Hid (Row encP 2 w24 _ (mnL a [(n, n)])) := Rrb23.out.below b24
  have B24 : Hid (Below w.heap.size w w24) := B23.out.trans (b24.mono B23.out.size)
  clear Ra23 Rb23 Rp23 Rra23 Rrb23 B23
  clear b24
  clear Rra24 Rrb24
  go_wp2
  go_ret
  exact ⟨rfl, B24.out⟩

theorem sets (va : Value) (a : List Pr) (vb : Value) (b : List Pr) (n : Int) (w : World) (ha : Row encP 2 w va a) (hb : Row encP 2 w vb b) (_bn : -9223372036854775808 ≤ n ∧ n ≤ 9223372036854775807) : Calls Try.prog 3 #[va, vb, .int .i64 n] w fun e w' => e = .returned (.bool true) ∧ Below w.heap.size w w' := by
  by_cases la : a.length ≤ 40
  rotate_left
  · exact sets.long_a va a vb b n w ha hb  (by omega)
  by_cases lb : b.length ≤ 40
  rotate_left
  · exact sets.long_b va a vb b n w ha hb la (by omega)
  exact sets.short va a vb b n w ha hb la lb

end Go.Proofs.Ytoigljefajbofaa

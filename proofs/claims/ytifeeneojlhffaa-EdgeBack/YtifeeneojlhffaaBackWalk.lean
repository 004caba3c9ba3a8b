/-
  The walk of the law EdgeBack.
-/
import Derived.Test.YtifeeneojlhffaaEdWorks
import Derived.Test.YtifeeneojlhffaaEdApply
namespace Go.Proofs.Ytifeeneojlhffaa
open Go.Shelf Go.RowKit Go.Lib Go.Sort

namespace edgeBack
set_option maxRecDepth 100000 in
set_option maxHeartbeats 1000000 in
theorem long_a (va : Value) (a : List Pr) (vb : Value) (b : List Pr) (w : World) (ha : Row encP 2 w va a) (hb : Row encP 2 w vb b) (la : 60 < a.length) : Calls Try.prog 7 #[va, vb] w fun e w' => e = .returned (.bool true) ∧ Below w.heap.size w w' := by
  obtain ⟨aoa, capa, rfl, _⟩ := id ha
  obtain ⟨aob, capb, rfl, _⟩ := id hb
  have ia : (60 : Int) < (a.length : Int) := by omega
  clear ha hb
  go_enter Try.func7, Try.ntmps7
  go_wp2_with fail
  refine (works_any _).mono ?_
  rintro e w1 ⟨rfl, b1⟩
  go_wp2
  go_ret
  exact ⟨rfl, b1⟩

set_option maxRecDepth 100000 in
set_option maxHeartbeats 1000000 in
theorem long_b (va : Value) (a : List Pr) (vb : Value) (b : List Pr) (w : World) (ha : Row encP 2 w va a) (hb : Row encP 2 w vb b) (la : a.length ≤ 60) (lb : 60 < b.length) : Calls Try.prog 7 #[va, vb] w fun e w' => e = .returned (.bool true) ∧ Below w.heap.size w w' := by
  obtain ⟨aoa, capa, rfl, _⟩ := id ha
  obtain ⟨aob, capb, rfl, _⟩ := id hb
  have ia : ¬ (60 : Int) < (a.length : Int) := by omega
  have ib : (60 : Int) < (b.length : Int) := by omega
  clear ha hb
  go_enter Try.func7, Try.ntmps7
  go_wp2_with fail
  refine (works_any _).mono ?_
  rintro e w1 ⟨rfl, b1⟩
  go_wp2
  go_ret
  exact ⟨rfl, b1⟩

set_option maxRecDepth 100000 in
set_option maxHeartbeats 4000000 in
theorem short (va : Value) (a : List Pr) (vb : Value) (b : List Pr) (w : World) (ha : Row encP 2 w va a) (hb : Row encP 2 w vb b) (la : a.length ≤ 60) (lb : b.length ≤ 60) : Calls Try.prog 7 #[va, vb] w fun e w' => e = .returned (.bool true) ∧ Below w.heap.size w w' := by
  have Ra0 : Hid (Row encP 2 w va a) := ha
  obtain ⟨aoa, capa, rfl, _⟩ := id ha
  have Rb0 : Hid (Row encP 2 w vb b) := hb
  obtain ⟨aob, capb, rfl, _⟩ := id hb
  clear ha hb
  have B0 : Hid (Below w.heap.size w w) := Below.refl _ _
  have ia : ¬ (60 : Int) < (a.length : Int) := by omega
  have ib : ¬ (60 : Int) < (b.length : Int) := by omega
  go_enter Try.func7, Try.ntmps7
  have C0 : Hid _ := works_any w
  go_wp2_with fail
  refine Calls.mono C0.out ?_
  rintro e w1 ⟨rfl, b1⟩
  have Ra1 : Hid (Row encP 2 w1 _ a) := Ra0.out.below b1
  have Rb1 : Hid (Row encP 2 w1 _ b) := Rb0.out.below b1
  have B1 : Hid (Below w.heap.size w w1) := B0.out.trans (b1.mono B0.out.size)
  clear Ra0 Rb0 B0 b1 C0
  have C1 : Hid _ := Diff_any _ _ a b w1 Ra1.out Rb1.out (by omega)
  go_wp2_with fail
  refine Calls.mono C1.out ?_
  rintro e w2 ⟨v1, d1, rfl, od1, hd1, ld1, b2⟩
  have Ra2 : Hid (Row encP 2 w2 _ a) := Ra1.out.below b2
  have Rb2 : Hid (Row encP 2 w2 _ b) := Rb1.out.below b2
  have B2 : Hid (Below w.heap.size w w2) := B1.out.trans (b2.mono B1.out.size)
  clear Ra1 Rb1 B1 b2 C1
  have Rd12 : Hid (Row encC 3 w2 v1 d1) := od1.row
  obtain ⟨xd1, yd1, rfl, _⟩ := id od1
  clear od1
  have C2 : Hid _ := Apply_any _ _ a d1 w2 Ra2.out Rd12.out (by omega)
  go_wp2_with fail
  refine Calls.mono C2.out ?_
  rintro e w3 ⟨u1, r1, rfl, or1, hr1, b3⟩
  have Ra3 : Hid (Row encP 2 w3 _ a) := Ra2.out.below b3
  have Rb3 : Hid (Row encP 2 w3 _ b) := Rb2.out.below b3
  have Rd13 : Hid (Row encC 3 w3 _ d1) := Rd12.out.below b3
  have B3 : Hid (Below w.heap.size w w3) := B2.out.trans (b3.mono B2.out.size)
  clear Ra2 Rb2 Rd12 B2 b3 C2
  have Rr13 : Hid (Row encP 2 w3 u1 r1) := or1.row
  obtain ⟨xr1, yr1, rfl, _⟩ := id or1
  clear or1
  clear Rd13
  have C3 : Hid _ := sort_any _ b w3 Rb3.out (by omega)
  go_wp2_with fail
  refine Calls.mono C3.out ?_
  rintro e w4 ⟨t1, s1, rfl, os1, ss1, ls1, ms1, b4⟩
  have Ra4 : Hid (Row encP 2 w4 _ a) := Ra3.out.below b4
  have Rb4 : Hid (Row encP 2 w4 _ b) := Rb3.out.below b4
  have Rr14 : Hid (Row encP 2 w4 _ r1) := Rr13.out.below b4
  have B4 : Hid (Below w.heap.size w w4) := B3.out.trans (b4.mono B3.out.size)
  clear Ra3 Rb3 Rr13 B3 b4 C3
  have Rs14 : Hid (Row encP 2 w4 t1 s1) := os1.row
  obtain ⟨xs1, ys1, rfl, _⟩ := id os1
  clear os1
  have E1 : Hid (r1 = s1) := ss_ext _ _ hr1.1 ss1 fun x => by rw [hr1.2 x, aft_diff hd1.2 x, ms1 x]; simp
  have lr1 : r1.length ≤ 60 := by rw [E1.out]; omega
  have S0 := same_any _ _ r1 s1 w4 Rr14.out Rs14.out (by omega) (by omega)
  rw [decide_eq_true E1.out] at S0
  have C4 : Hid _ := S0
  clear S0
  go_wp2_with fail
  refine Calls.mono C4.out ?_
  rintro e w5 ⟨rfl, b5⟩
  have Ra5 : Hid (Row encP 2 w5 _ a) := Ra4.out.below b5
  have Rb5 : Hid (Row encP 2 w5 _ b) := Rb4.out.below b5
  have Rr15 : Hid (Row encP 2 w5 _ r1) := Rr14.out.below b5
  have Rs15 : Hid (Row encP 2 w5 _ s1) := Rs14.out.below b5
  have B5 : Hid (Below w.heap.size w w5) := B4.out.trans (b5.mono B4.out.size)
  clear Ra4 Rb4 Rr14 Rs14 B4 b5 C4
  clear Rr15 Rs15
  clear E1 hr1 ss1 ms1 hd1
  have C5 : Hid _ := Diff_any _ _ b a w5 Rb5.out Ra5.out (by omega)
  go_wp2_with fail
  refine Calls.mono C5.out ?_
  rintro e w6 ⟨v2, d2, rfl, od2, hd2, ld2, b6⟩
  have Ra6 : Hid (Row encP 2 w6 _ a) := Ra5.out.below b6
  have Rb6 : Hid (Row encP 2 w6 _ b) := Rb5.out.below b6
  have B6 : Hid (Below w.heap.size w w6) := B5.out.trans (b6.mono B5.out.size)
  clear Ra5 Rb5 B5 b6 C5
  have Rd26 : Hid (Row encC 3 w6 v2 d2) := od2.row
  obtain ⟨xd2, yd2, rfl, _⟩ := id od2
  clear od2
  have C6 : Hid _ := Apply_any _ _ b d2 w6 Rb6.out Rd26.out (by omega)
  go_wp2_with fail
  refine Calls.mono C6.out ?_
  rintro e w7 ⟨u2, r2, rfl, or2, hr2, b7⟩
  have Ra7 : Hid (Row encP 2 w7 _ a) := Ra6.out.below b7
  have Rb7 : Hid (Row encP 2 w7 _ b) := Rb6.out.below b7
  have Rd27 : Hid (Row encC 3 w7 _ d2) := Rd26.out.below b7
  have B7 : Hid (Below w.heap.size w w7) := B6.out.trans (b7.mono B6.out.size)
  clear Ra6 Rb6 Rd26 B6 b7 C6
  have Rr27 : Hid (Row encP 2 w7 u2 r2) := or2.row
  obtain ⟨xr2, yr2, rfl, _⟩ := id or2
  clear or2
  clear Rd27
  have C7 : Hid _ := sort_any _ a w7 Ra7.out (by omega)
  go_wp2_with fail
  refine Calls.mono C7.out ?_
  rintro e w8 ⟨t2, s2, rfl, os2, ss2, ls2, ms2, b8⟩
  have Ra8 : Hid (Row encP 2 w8 _ a) := Ra7.out.below b8
  have Rb8 : Hid (Row encP 2 w8 _ b) := Rb7.out.below b8
  have Rr28 : Hid (Row encP 2 w8 _ r2) := Rr27.out.below b8
  have B8 : Hid (Below w.heap.size w w8) := B7.out.trans (b8.mono B7.out.size)
  clear Ra7 Rb7 Rr27 B7 b8 C7
  have Rs28 : Hid (Row encP 2 w8 t2 s2) := os2.row
  obtain ⟨xs2, ys2, rfl, _⟩ := id os2
  clear os2
  have E2 : Hid (r2 = s2) := ss_ext _ _ hr2.1 ss2 fun x => by rw [hr2.2 x, aft_diff hd2.2 x, ms2 x]; simp
  have lr2 : r2.length ≤ 60 := by rw [E2.out]; omega
  have S0 := same_any _ _ r2 s2 w8 Rr28.out Rs28.out (by omega) (by omega)
  rw [decide_eq_true E2.out] at S0
  have C8 : Hid _ := S0
  clear S0
  go_wp2_with fail
  refine Calls.mono C8.out ?_
  rintro e w9 ⟨rfl, b9⟩
  have Ra9 : Hid (Row encP 2 w9 _ a) := Ra8.out.below b9
  have Rb9 : Hid (Row encP 2 w9 _ b) := Rb8.out.below b9
  have Rr29 : Hid (Row encP 2 w9 _ r2) := Rr28.out.below b9
  have Rs29 : Hid (Row encP 2 w9 _ s2) := Rs28.out.below b9
  have B9 : Hid (Below w.heap.size w w9) := B8.out.trans (b9.mono B8.out.size)
  clear Ra8 Rb8 Rr28 Rs28 B8 b9 C8
  clear Rr29 Rs29
  clear E2 hr2 ss2 ms2 hd2
  have C9 : Hid _ := Diff_any _ _ a a w9 Ra9.out Ra9.out (by omega)
  go_wp2_with fail
  refine Calls.mono C9.out ?_
  rintro e w10 ⟨v3, d3, rfl, od3, hd3, ld3, b10⟩
  have Ra10 : Hid (Row encP 2 w10 _ a) := Ra9.out.below b10
  have Rb10 : Hid (Row encP 2 w10 _ b) := Rb9.out.below b10
  have B10 : Hid (Below w.heap.size w w10) := B9.out.trans (b10.mono B9.out.size)
  clear Ra9 Rb9 B9 b10 C9
  have Rd310 : Hid (Row encC 3 w10 v3 d3) := od3.row
  obtain ⟨xd3, yd3, rfl, _⟩ := id od3
  clear od3
  clear Rd310
  obtain rfl : d3 = [] := diff_none hd3.2
  clear hd3 ld3
  simp only [List.length_nil]
  have C10 : Hid _ := Diff_any _ _ a b w10 Ra10.out Rb10.out (by omega)
  go_wp2_with fail
  refine Calls.mono C10.out ?_
  rintro e w11 ⟨v4, d4, rfl, od4, hd4, ld4, b11⟩
  have Ra11 : Hid (Row encP 2 w11 _ a) := Ra10.out.below b11
  have Rb11 : Hid (Row encP 2 w11 _ b) := Rb10.out.below b11
  have B11 : Hid (Below w.heap.size w w11) := B10.out.trans (b11.mono B10.out.size)
  clear Ra10 Rb10 B10 b11 C10
  have Rd411 : Hid (Row encC 3 w11 v4 d4) := od4.row
  obtain ⟨xd4, yd4, rfl, _⟩ := id od4
  clear od4
  clear Rd411
  have HD4 : Hid (diffOf a b d4) := hd4
  clear hd4
  have C11 : Hid _ := Minus_any _ _ a b w11 Ra11.out Rb11.out (by omega)
  go_wp2_with fail
  refine Calls.mono C11.out ?_
  rintro e w12 ⟨v5, m5, rfl, om5, hm5, b12⟩
  have Ra12 : Hid (Row encP 2 w12 _ a) := Ra11.out.below b12
  have Rb12 : Hid (Row encP 2 w12 _ b) := Rb11.out.below b12
  have B12 : Hid (Below w.heap.size w w12) := B11.out.trans (b12.mono B11.out.size)
  clear Ra11 Rb11 B11 b12 C11
  have Rm512 : Hid (Row encP 2 w12 v5 m5) := om5.row
  obtain ⟨xm5, ym5, rfl, _⟩ := id om5
  clear om5
  clear Rm512
  have HM5 : Hid (minusOf a b m5) := hm5
  clear hm5
  have C12 : Hid _ := Minus_any _ _ b a w12 Rb12.out Ra12.out (by omega)
  go_wp2_with fail
  refine Calls.mono C12.out ?_
  rintro e w13 ⟨v6, m6, rfl, om6, hm6, b13⟩
  have Ra13 : Hid (Row encP 2 w13 _ a) := Ra12.out.below b13
  have Rb13 : Hid (Row encP 2 w13 _ b) := Rb12.out.below b13
  have B13 : Hid (Below w.heap.size w w13) := B12.out.trans (b13.mono B12.out.size)
  clear Ra12 Rb12 B12 b13 C12
  have Rm613 : Hid (Row encP 2 w13 v6 m6) := om6.row
  obtain ⟨xm6, ym6, rfl, _⟩ := id om6
  clear om6
  clear Rm613
  have hlen := diff_length HD4.out.1 HD4.out.2 HM5.out hm6
  have hlz : (d4.length : Int) = (m5.length : Int) + (m6.length : Int) := by omega
  have hb5 : m5.length ≤ 120 := by omega
  have hb6 : m6.length ≤ 120 := by omega
  clear hlen ld4 hm6
  go_wp2
  go_ret
  exact ⟨rfl, B13.out⟩

theorem walk (va : Value) (a : List Pr) (vb : Value) (b : List Pr) (w : World) (ha : Row encP 2 w va a) (hb : Row encP 2 w vb b) : Calls Try.prog 7 #[va, vb] w fun e w' => e = .returned (.bool true) ∧ Below w.heap.size w w' := by
  by_cases la : a.length ≤ 60
  rotate_left
  · exact long_a va a vb b w ha hb  (by omega)
  by_cases lb : b.length ≤ 60
  · exact short va a vb b w ha hb la lb
  · exact long_b va a vb b w ha hb la (by omega)
end edgeBack
end Go.Proofs.Ytifeeneojlhffaa

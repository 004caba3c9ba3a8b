/-
  The walk of the law EdgeSorts.
-/
import Derived.Test.YtifeeneojlhffaaEdWorks
import Derived.Test.YtifeeneojlhffaaEdApply
import Derived.Test.YtifeeneojlhffaaRefDiff
namespace Go.Proofs.Ytifeeneojlhffaa
open Go.Shelf Go.RowKit Go.Lib Go.Sort

namespace edgeSorts
set_option maxRecDepth 100000 in
set_option maxHeartbeats 1000000 in
theorem long_a (va : Value) (a : List Pr) (vb : Value) (b : List Pr) (vc : Value) (c : List Ch) (w : World) (ha : Row encP 2 w va a) (hb : Row encP 2 w vb b) (hc : Row encC 3 w vc c) (la : 60 < a.length) : Calls Try.prog 6 #[va, vb, vc] w fun e w' => e = .returned (.bool true) ∧ Below w.heap.size w w' := by
  obtain ⟨aoa, capa, rfl, _⟩ := id ha
  obtain ⟨aob, capb, rfl, _⟩ := id hb
  obtain ⟨aoc, capc, rfl, _⟩ := id hc
  have ia : (60 : Int) < (a.length : Int) := by omega
  clear ha hb hc
  go_enter Try.func6, Try.ntmps6
  go_wp2_with fail
  refine (works_any _).mono ?_
  rintro e w1 ⟨rfl, b1⟩
  go_wp2
  go_ret
  exact ⟨rfl, b1⟩

set_option maxRecDepth 100000 in
set_option maxHeartbeats 1000000 in
theorem long_b (va : Value) (a : List Pr) (vb : Value) (b : List Pr) (vc : Value) (c : List Ch) (w : World) (ha : Row encP 2 w va a) (hb : Row encP 2 w vb b) (hc : Row encC 3 w vc c) (la : a.length ≤ 60) (lb : 60 < b.length) : Calls Try.prog 6 #[va, vb, vc] w fun e w' => e = .returned (.bool true) ∧ Below w.heap.size w w' := by
  obtain ⟨aoa, capa, rfl, _⟩ := id ha
  obtain ⟨aob, capb, rfl, _⟩ := id hb
  obtain ⟨aoc, capc, rfl, _⟩ := id hc
  have ia : ¬ (60 : Int) < (a.length : Int) := by omega
  have ib : (60 : Int) < (b.length : Int) := by omega
  clear ha hb hc
  go_enter Try.func6, Try.ntmps6
  go_wp2_with fail
  refine (works_any _).mono ?_
  rintro e w1 ⟨rfl, b1⟩
  go_wp2
  go_ret
  exact ⟨rfl, b1⟩

set_option maxRecDepth 100000 in
set_option maxHeartbeats 1000000 in
theorem long_c (va : Value) (a : List Pr) (vb : Value) (b : List Pr) (vc : Value) (c : List Ch) (w : World) (ha : Row encP 2 w va a) (hb : Row encP 2 w vb b) (hc : Row encC 3 w vc c) (la : a.length ≤ 60) (lb : b.length ≤ 60) (lc : 60 < c.length) : Calls Try.prog 6 #[va, vb, vc] w fun e w' => e = .returned (.bool true) ∧ Below w.heap.size w w' := by
  obtain ⟨aoa, capa, rfl, _⟩ := id ha
  obtain ⟨aob, capb, rfl, _⟩ := id hb
  obtain ⟨aoc, capc, rfl, _⟩ := id hc
  have ia : ¬ (60 : Int) < (a.length : Int) := by omega
  have ib : ¬ (60 : Int) < (b.length : Int) := by omega
  have ic : (60 : Int) < (c.length : Int) := by omega
  clear ha hb hc
  go_enter Try.func6, Try.ntmps6
  go_wp2_with fail
  refine (works_any _).mono ?_
  rintro e w1 ⟨rfl, b1⟩
  go_wp2
  go_ret
  exact ⟨rfl, b1⟩

set_option maxRecDepth 100000 in
set_option maxHeartbeats 4000000 in
theorem short (va : Value) (a : List Pr) (vb : Value) (b : List Pr) (vc : Value) (c : List Ch) (w : World) (ha : Row encP 2 w va a) (hb : Row encP 2 w vb b) (hc : Row encC 3 w vc c) (la : a.length ≤ 60) (lb : b.length ≤ 60) (lc : c.length ≤ 60) : Calls Try.prog 6 #[va, vb, vc] w fun e w' => e = .returned (.bool true) ∧ Below w.heap.size w w' := by
  have Ra0 : Hid (Row encP 2 w va a) := ha
  obtain ⟨aoa, capa, rfl, _⟩ := id ha
  have Rb0 : Hid (Row encP 2 w vb b) := hb
  obtain ⟨aob, capb, rfl, _⟩ := id hb
  have Rc0 : Hid (Row encC 3 w vc c) := hc
  obtain ⟨aoc, capc, rfl, _⟩ := id hc
  clear ha hb hc
  have B0 : Hid (Below w.heap.size w w) := Below.refl _ _
  have ia : ¬ (60 : Int) < (a.length : Int) := by omega
  have ib : ¬ (60 : Int) < (b.length : Int) := by omega
  have ic : ¬ (60 : Int) < (c.length : Int) := by omega
  go_enter Try.func6, Try.ntmps6
  have C0 : Hid _ := works_any w
  go_wp2_with fail
  refine Calls.mono C0.out ?_
  rintro e w1 ⟨rfl, b1⟩
  have Ra1 : Hid (Row encP 2 w1 _ a) := Ra0.out.below b1
  have Rb1 : Hid (Row encP 2 w1 _ b) := Rb0.out.below b1
  have Rc1 : Hid (Row encC 3 w1 _ c) := Rc0.out.below b1
  have B1 : Hid (Below w.heap.size w w1) := B0.out.trans (b1.mono B0.out.size)
  clear Ra0 Rb0 Rc0 B0 b1 C0
  have C1 : Hid _ := sort_any _ a w1 Ra1.out (by omega)
  go_wp2_with fail
  refine Calls.mono C1.out ?_
  rintro e w2 ⟨t1, s1, rfl, os1, ss1, ls1, ms1, b2⟩
  have Ra2 : Hid (Row encP 2 w2 _ a) := Ra1.out.below b2
  have Rb2 : Hid (Row encP 2 w2 _ b) := Rb1.out.below b2
  have Rc2 : Hid (Row encC 3 w2 _ c) := Rc1.out.below b2
  have B2 : Hid (Below w.heap.size w w2) := B1.out.trans (b2.mono B1.out.size)
  clear Ra1 Rb1 Rc1 B1 b2 C1
  have Rs12 : Hid (Row encP 2 w2 t1 s1) := os1.row
  obtain ⟨xs1, ys1, rfl, _⟩ := id os1
  clear os1
  have C2 : Hid _ := rsort_any _ a w2 Ra2.out (by omega)
  go_wp2_with fail
  refine Calls.mono C2.out ?_
  rintro e w3 ⟨v1, rfl, or1, b3⟩
  have Ra3 : Hid (Row encP 2 w3 _ a) := Ra2.out.below b3
  have Rb3 : Hid (Row encP 2 w3 _ b) := Rb2.out.below b3
  have Rc3 : Hid (Row encC 3 w3 _ c) := Rc2.out.below b3
  have Rs13 : Hid (Row encP 2 w3 _ s1) := Rs12.out.below b3
  have B3 : Hid (Below w.heap.size w w3) := B2.out.trans (b3.mono B2.out.size)
  clear Ra2 Rb2 Rc2 Rs12 B2 b3 C2
  have Rr13 : Hid (Row encP 2 w3 v1 (sortL a)) := or1.row
  obtain ⟨xr1, yr1, rfl, _⟩ := id or1
  clear or1
  have SP := sortL_spec a
  have E1 : Hid (s1 = sortL a) := ss_ext _ _ ss1 SP.1 fun x => by rw [ms1 x, SP.2.1 x]
  have S0 := same_any _ _ s1 (sortL a) w3 Rs13.out Rr13.out (by omega) (by omega)
  rw [decide_eq_true E1.out] at S0
  clear SP
  have C3 : Hid _ := S0
  clear S0
  go_wp2_with fail
  refine Calls.mono C3.out ?_
  rintro e w4 ⟨rfl, b4⟩
  have Ra4 : Hid (Row encP 2 w4 _ a) := Ra3.out.below b4
  have Rb4 : Hid (Row encP 2 w4 _ b) := Rb3.out.below b4
  have Rc4 : Hid (Row encC 3 w4 _ c) := Rc3.out.below b4
  have Rs14 : Hid (Row encP 2 w4 _ s1) := Rs13.out.below b4
  have Rr14 : Hid (Row encP 2 w4 _ (sortL a)) := Rr13.out.below b4
  have B4 : Hid (Below w.heap.size w w4) := B3.out.trans (b4.mono B3.out.size)
  clear Ra3 Rb3 Rc3 Rs13 Rr13 B3 b4 C3
  clear Rs14 Rr14
  clear E1 ss1 ms1
  have C4 : Hid _ := Minus_any _ _ a b w4 Ra4.out Rb4.out (by omega)
  go_wp2_with fail
  refine Calls.mono C4.out ?_
  rintro e w5 ⟨v2, m2, rfl, om2, hm2, b5⟩
  have Ra5 : Hid (Row encP 2 w5 _ a) := Ra4.out.below b5
  have Rb5 : Hid (Row encP 2 w5 _ b) := Rb4.out.below b5
  have Rc5 : Hid (Row encC 3 w5 _ c) := Rc4.out.below b5
  have B5 : Hid (Below w.heap.size w w5) := B4.out.trans (b5.mono B4.out.size)
  clear Ra4 Rb4 Rc4 B4 b5 C4
  have Rm25 : Hid (Row encP 2 w5 v2 m2) := om2.row
  obtain ⟨xm2, ym2, rfl, _⟩ := id om2
  clear om2
  have C5 : Hid _ := rminus_any _ _ a b w5 Ra5.out Rb5.out (by omega) (by omega)
  go_wp2_with fail
  refine Calls.mono C5.out ?_
  rintro e w6 ⟨u2, n2, rfl, on2, hn2, ln2, b6⟩
  have Ra6 : Hid (Row encP 2 w6 _ a) := Ra5.out.below b6
  have Rb6 : Hid (Row encP 2 w6 _ b) := Rb5.out.below b6
  have Rc6 : Hid (Row encC 3 w6 _ c) := Rc5.out.below b6
  have Rm26 : Hid (Row encP 2 w6 _ m2) := Rm25.out.below b6
  have B6 : Hid (Below w.heap.size w w6) := B5.out.trans (b6.mono B5.out.size)
  clear Ra5 Rb5 Rc5 Rm25 B5 b6 C5
  have Rn26 : Hid (Row encP 2 w6 u2 n2) := on2.row
  obtain ⟨xn2, yn2, rfl, _⟩ := id on2
  clear on2
  have E2 : Hid (m2 = n2) := minusOf_ext hm2 hn2
  have lm2 : m2.length ≤ 60 := by rw [E2.out]; omega
  have S0 := same_any _ _ m2 n2 w6 Rm26.out Rn26.out (by omega) (by omega)
  rw [decide_eq_true E2.out] at S0
  have C6 : Hid _ := S0
  clear S0
  go_wp2_with fail
  refine Calls.mono C6.out ?_
  rintro e w7 ⟨rfl, b7⟩
  have Ra7 : Hid (Row encP 2 w7 _ a) := Ra6.out.below b7
  have Rb7 : Hid (Row encP 2 w7 _ b) := Rb6.out.below b7
  have Rc7 : Hid (Row encC 3 w7 _ c) := Rc6.out.below b7
  have Rm27 : Hid (Row encP 2 w7 _ m2) := Rm26.out.below b7
  have Rn27 : Hid (Row encP 2 w7 _ n2) := Rn26.out.below b7
  have B7 : Hid (Below w.heap.size w w7) := B6.out.trans (b7.mono B6.out.size)
  clear Ra6 Rb6 Rc6 Rm26 Rn26 B6 b7 C6
  clear Rm27 Rn27
  clear E2 hm2 hn2
  have C7 : Hid _ := Diff_any _ _ a b w7 Ra7.out Rb7.out (by omega)
  go_wp2_with fail
  refine Calls.mono C7.out ?_
  rintro e w8 ⟨v3, d3, rfl, od3, hd3, ld3, b8⟩
  have Ra8 : Hid (Row encP 2 w8 _ a) := Ra7.out.below b8
  have Rb8 : Hid (Row encP 2 w8 _ b) := Rb7.out.below b8
  have Rc8 : Hid (Row encC 3 w8 _ c) := Rc7.out.below b8
  have B8 : Hid (Below w.heap.size w w8) := B7.out.trans (b8.mono B7.out.size)
  clear Ra7 Rb7 Rc7 B7 b8 C7
  have Rd38 : Hid (Row encC 3 w8 v3 d3) := od3.row
  obtain ⟨xd3, yd3, rfl, _⟩ := id od3
  clear od3
  have C8 : Hid _ := rdiff_any _ _ a b w8 Ra8.out Rb8.out (by omega) (by omega)
  go_wp2_with fail
  refine Calls.mono C8.out ?_
  rintro e w9 ⟨u3, e3, rfl, oe3, he3, b9⟩
  have Ra9 : Hid (Row encP 2 w9 _ a) := Ra8.out.below b9
  have Rb9 : Hid (Row encP 2 w9 _ b) := Rb8.out.below b9
  have Rc9 : Hid (Row encC 3 w9 _ c) := Rc8.out.below b9
  have Rd39 : Hid (Row encC 3 w9 _ d3) := Rd38.out.below b9
  have B9 : Hid (Below w.heap.size w w9) := B8.out.trans (b9.mono B8.out.size)
  clear Ra8 Rb8 Rc8 Rd38 B8 b9 C8
  have Re39 : Hid (Row encC 3 w9 u3 e3) := oe3.row
  obtain ⟨xe3, ye3, rfl, _⟩ := id oe3
  clear oe3
  have E3 : Hid (d3 = e3) := sc_ext _ _ hd3.1 he3.1 fun x => by rw [hd3.2 x, he3.2 x]
  have le3 : e3.length ≤ 120 := by rw [← E3.out]; omega
  have S0 := sameC_any _ _ d3 e3 w9 Rd39.out Re39.out (by omega) (by omega)
  rw [decide_eq_true E3.out] at S0
  have C9 : Hid _ := S0
  clear S0
  go_wp2_with fail
  refine Calls.mono C9.out ?_
  rintro e w10 ⟨rfl, b10⟩
  have Ra10 : Hid (Row encP 2 w10 _ a) := Ra9.out.below b10
  have Rb10 : Hid (Row encP 2 w10 _ b) := Rb9.out.below b10
  have Rc10 : Hid (Row encC 3 w10 _ c) := Rc9.out.below b10
  have Rd310 : Hid (Row encC 3 w10 _ d3) := Rd39.out.below b10
  have Re310 : Hid (Row encC 3 w10 _ e3) := Re39.out.below b10
  have B10 : Hid (Below w.heap.size w w10) := B9.out.trans (b10.mono B9.out.size)
  clear Ra9 Rb9 Rc9 Rd39 Re39 B9 b10 C9
  clear Rd310 Re310
  clear E3 hd3 he3
  have C10 : Hid _ := Apply_any _ _ a c w10 Ra10.out Rc10.out (by omega)
  go_wp2_with fail
  refine Calls.mono C10.out ?_
  rintro e w11 ⟨v4, r4, rfl, or4, hr4, b11⟩
  have Ra11 : Hid (Row encP 2 w11 _ a) := Ra10.out.below b11
  have Rb11 : Hid (Row encP 2 w11 _ b) := Rb10.out.below b11
  have Rc11 : Hid (Row encC 3 w11 _ c) := Rc10.out.below b11
  have B11 : Hid (Below w.heap.size w w11) := B10.out.trans (b11.mono B10.out.size)
  clear Ra10 Rb10 Rc10 B10 b11 C10
  have Rr411 : Hid (Row encP 2 w11 v4 r4) := or4.row
  obtain ⟨xr4, yr4, rfl, _⟩ := id or4
  clear or4
  have C11 : Hid _ := rapply_any _ _ a c w11 Ra11.out Rc11.out (by omega)
  go_wp2_with fail
  refine Calls.mono C11.out ?_
  rintro e w12 ⟨u4, q4, rfl, oq4, hq4, lq4, b12⟩
  have Ra12 : Hid (Row encP 2 w12 _ a) := Ra11.out.below b12
  have Rb12 : Hid (Row encP 2 w12 _ b) := Rb11.out.below b12
  have Rc12 : Hid (Row encC 3 w12 _ c) := Rc11.out.below b12
  have Rr412 : Hid (Row encP 2 w12 _ r4) := Rr411.out.below b12
  have B12 : Hid (Below w.heap.size w w12) := B11.out.trans (b12.mono B11.out.size)
  clear Ra11 Rb11 Rc11 Rr411 B11 b12 C11
  have Rq412 : Hid (Row encP 2 w12 u4 q4) := oq4.row
  obtain ⟨xq4, yq4, rfl, _⟩ := id oq4
  clear oq4
  have E4 : Hid (r4 = q4) := ss_ext _ _ hr4.1 hq4.1 fun x => by rw [hr4.2 x, hq4.2 x]
  have lr4 : r4.length ≤ 120 := by rw [E4.out]; omega
  have S0 := same_any _ _ r4 q4 w12 Rr412.out Rq412.out (by omega) (by omega)
  rw [decide_eq_true E4.out] at S0
  have C12 : Hid _ := S0
  clear S0
  go_wp2_with fail
  refine Calls.mono C12.out ?_
  rintro e w13 ⟨rfl, b13⟩
  have Ra13 : Hid (Row encP 2 w13 _ a) := Ra12.out.below b13
  have Rb13 : Hid (Row encP 2 w13 _ b) := Rb12.out.below b13
  have Rc13 : Hid (Row encC 3 w13 _ c) := Rc12.out.below b13
  have Rr413 : Hid (Row encP 2 w13 _ r4) := Rr412.out.below b13
  have Rq413 : Hid (Row encP 2 w13 _ q4) := Rq412.out.below b13
  have B13 : Hid (Below w.heap.size w w13) := B12.out.trans (b13.mono B12.out.size)
  clear Ra12 Rb12 Rc12 Rr412 Rq412 B12 b13 C12
  clear Rr413 Rq413
  clear E4 hr4 hq4
  go_wp2
  go_ret
  exact ⟨rfl, B13.out⟩

theorem walk (va : Value) (a : List Pr) (vb : Value) (b : List Pr) (vc : Value) (c : List Ch) (w : World) (ha : Row encP 2 w va a) (hb : Row encP 2 w vb b) (hc : Row encC 3 w vc c) : Calls Try.prog 6 #[va, vb, vc] w fun e w' => e = .returned (.bool true) ∧ Below w.heap.size w w' := by
  by_cases la : a.length ≤ 60
  rotate_left
  · exact long_a va a vb b vc c w ha hb hc  (by omega)
  by_cases lb : b.length ≤ 60
  rotate_left
  · exact long_b va a vb b vc c w ha hb hc la (by omega)
  by_cases lc : c.length ≤ 60
  · exact short va a vb b vc c w ha hb hc la lb lc
  · exact long_c va a vb b vc c w ha hb hc la lb (by omega)
end edgeSorts
end Go.Proofs.Ytifeeneojlhffaa

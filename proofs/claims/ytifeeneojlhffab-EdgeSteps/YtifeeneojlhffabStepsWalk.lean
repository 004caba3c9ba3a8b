/-
  The walk of the law EdgeSteps.
-/
import Derived.Test.YtifeeneojlhffabEdWorks
import Derived.Test.YtifeeneojlhffabEdApply
import Derived.Test.YtifeeneojlhffabApp
namespace Go.Proofs.Ytifeeneojlhffab
open Go.Shelf Go.RowKit Go.Lib Go.Sort

namespace edgeSteps
set_option maxRecDepth 100000 in
set_option maxHeartbeats 1000000 in
theorem long_a (va : Value) (a : List Pr) (vb : Value) (b : List Pr) (vc : Value) (c : List Pr) (w : World) (ha : Row encP 2 w va a) (hb : Row encP 2 w vb b) (hc : Row encP 2 w vc c) (la : 60 < a.length) : Calls Try.prog 4 #[va, vb, vc] w fun e w' => e = .returned (.bool true) ∧ Below w.heap.size w w' := by
  obtain ⟨aoa, capa, rfl, _⟩ := id ha
  obtain ⟨aob, capb, rfl, _⟩ := id hb
  obtain ⟨aoc, capc, rfl, _⟩ := id hc
  have ia : (60 : Int) < (a.length : Int) := by omega
  clear ha hb hc
  go_enter Try.func4, Try.ntmps4
  go_wp2_with fail
  refine (works_any _).mono ?_
  rintro e w1 ⟨rfl, b1⟩
  go_wp2
  go_ret
  exact ⟨rfl, b1⟩

set_option maxRecDepth 100000 in
set_option maxHeartbeats 1000000 in
theorem long_b (va : Value) (a : List Pr) (vb : Value) (b : List Pr) (vc : Value) (c : List Pr) (w : World) (ha : Row encP 2 w va a) (hb : Row encP 2 w vb b) (hc : Row encP 2 w vc c) (la : a.length ≤ 60) (lb : 60 < b.length) : Calls Try.prog 4 #[va, vb, vc] w fun e w' => e = .returned (.bool true) ∧ Below w.heap.size w w' := by
  obtain ⟨aoa, capa, rfl, _⟩ := id ha
  obtain ⟨aob, capb, rfl, _⟩ := id hb
  obtain ⟨aoc, capc, rfl, _⟩ := id hc
  have ia : ¬ (60 : Int) < (a.length : Int) := by omega
  have ib : (60 : Int) < (b.length : Int) := by omega
  clear ha hb hc
  go_enter Try.func4, Try.ntmps4
  go_wp2_with fail
  refine (works_any _).mono ?_
  rintro e w1 ⟨rfl, b1⟩
  go_wp2
  go_ret
  exact ⟨rfl, b1⟩

set_option maxRecDepth 100000 in
set_option maxHeartbeats 1000000 in
theorem long_c (va : Value) (a : List Pr) (vb : Value) (b : List Pr) (vc : Value) (c : List Pr) (w : World) (ha : Row encP 2 w va a) (hb : Row encP 2 w vb b) (hc : Row encP 2 w vc c) (la : a.length ≤ 60) (lb : b.length ≤ 60) (lc : 60 < c.length) : Calls Try.prog 4 #[va, vb, vc] w fun e w' => e = .returned (.bool true) ∧ Below w.heap.size w w' := by
  obtain ⟨aoa, capa, rfl, _⟩ := id ha
  obtain ⟨aob, capb, rfl, _⟩ := id hb
  obtain ⟨aoc, capc, rfl, _⟩ := id hc
  have ia : ¬ (60 : Int) < (a.length : Int) := by omega
  have ib : ¬ (60 : Int) < (b.length : Int) := by omega
  have ic : (60 : Int) < (c.length : Int) := by omega
  clear ha hb hc
  go_enter Try.func4, Try.ntmps4
  go_wp2_with fail
  refine (works_any _).mono ?_
  rintro e w1 ⟨rfl, b1⟩
  go_wp2
  go_ret
  exact ⟨rfl, b1⟩

set_option maxRecDepth 100000 in
set_option maxHeartbeats 4000000 in
theorem short (va : Value) (a : List Pr) (vb : Value) (b : List Pr) (vc : Value) (c : List Pr) (w : World) (ha : Row encP 2 w va a) (hb : Row encP 2 w vb b) (hc : Row encP 2 w vc c) (la : a.length ≤ 60) (lb : b.length ≤ 60) (lc : c.length ≤ 60) : Calls Try.prog 4 #[va, vb, vc] w fun e w' => e = .returned (.bool true) ∧ Below w.heap.size w w' := by
  have Ra0 : Hid (Row encP 2 w va a) := ha
  obtain ⟨aoa, capa, rfl, _⟩ := id ha
  have Rb0 : Hid (Row encP 2 w vb b) := hb
  obtain ⟨aob, capb, rfl, _⟩ := id hb
  have Rc0 : Hid (Row encP 2 w vc c) := hc
  obtain ⟨aoc, capc, rfl, _⟩ := id hc
  clear ha hb hc
  have B0 : Hid (Below w.heap.size w w) := Below.refl _ _
  have ia : ¬ (60 : Int) < (a.length : Int) := by omega
  have ib : ¬ (60 : Int) < (b.length : Int) := by omega
  have ic : ¬ (60 : Int) < (c.length : Int) := by omega
  go_enter Try.func4, Try.ntmps4
  have C0 : Hid _ := works_any w
  go_wp2_with fail
  refine Calls.mono C0.out ?_
  rintro e w1 ⟨rfl, b1⟩
  have Ra1 : Hid (Row encP 2 w1 _ a) := Ra0.out.below b1
  have Rb1 : Hid (Row encP 2 w1 _ b) := Rb0.out.below b1
  have Rc1 : Hid (Row encP 2 w1 _ c) := Rc0.out.below b1
  have B1 : Hid (Below w.heap.size w w1) := B0.out.trans (b1.mono B0.out.size)
  clear Ra0 Rb0 Rc0 B0 b1 C0
  have C1 : Hid _ := Diff_any _ _ a b w1 Ra1.out Rb1.out (by omega)
  go_wp2_with fail
  refine Calls.mono C1.out ?_
  rintro e w2 ⟨v1, d1, rfl, od1, hd1, ld1, b2⟩
  have Ra2 : Hid (Row encP 2 w2 _ a) := Ra1.out.below b2
  have Rb2 : Hid (Row encP 2 w2 _ b) := Rb1.out.below b2
  have Rc2 : Hid (Row encP 2 w2 _ c) := Rc1.out.below b2
  have B2 : Hid (Below w.heap.size w w2) := B1.out.trans (b2.mono B1.out.size)
  clear Ra1 Rb1 Rc1 B1 b2 C1
  have Rd12 : Hid (Row encC 3 w2 v1 d1) := od1.row
  obtain ⟨xd1, yd1, rfl, _⟩ := id od1
  clear od1
  have HD1 : Hid (diffOf a b d1) := hd1
  clear hd1
  go_wp2_with (at_builtin; refine app_rowC rfl _ _ rfl w2.heap.size _ [] rfl (OwnC.empty _ _) _ d1 rfl Rd12.out (by simp only [List.length_nil]; omega) (Nat.le_refl _) d1 (List.nil_append d1) ?_)
  intro ax3 nx3 cx3 w3 HO3 HB3
  have OX3 : Aside (OwnC w2.heap.size w3 (.slice ax3 nx3 cx3) d1) := HO3
  have K3 : Hid (Below w2.heap.size w2 w3) := HB3 _ (Below.refl _ _)
  have C3 : Hid _ := Diff_any _ _ b c w3 (Rb2.out.below K3.out) (Rc2.out.below K3.out) (by omega)
  clear HO3 HB3 Rd12
  go_wp2_with fail
  refine Calls.mono C3.out ?_
  rintro e w4 ⟨v2, d2, rfl, od2, hd2, ld2, b4⟩
  have OX4 : Aside (OwnC w2.heap.size w4 (.slice ax3 nx3 cx3) d1) := ownsRow_below OX3.out b4
  have K4 : Hid (Below w2.heap.size w2 w4) := K3.out.trans (b4.mono K3.out.size)
  have Rd24 : Hid (Row encC 3 w4 v2 d2) := od2.row
  have HD2 : Hid (diffOf b c d2) := hd2
  obtain ⟨xd2, yd2, rfl, _⟩ := id od2
  obtain ⟨L, hL⟩ : ∃ L, d1 ++ d2 = L := ⟨_, rfl⟩
  have HL : Hid (d1 ++ d2 = L) := hL
  have lL : L.length ≤ d1.length + d2.length := Nat.le_of_eq (by rw [← hL, List.length_append])
  clear od2 hd2 b4 C3 OX3 K3 hL
  go_wp2_with (at_builtin; refine app_rowC rfl _ _ rfl w2.heap.size _ d1 rfl OX4.out _ d2 rfl Rd24.out (by omega) K4.out.size L HL.out ?_)
  intro ax5 nx5 cx5 w5 HO5 HB5
  have K5 : Hid (Below w2.heap.size w2 w5) := HB5 _ K4.out
  have oL : Own encC 3 w2.heap.size w5 (.slice ax5 nx5 cx5) L := OwnC.own HO5
  have RL5 : Hid (Row encC 3 w5 (.slice ax5 nx5 cx5) L) := oL.row
  obtain ⟨xL, yL, ezL, _⟩ := id oL
  cases ezL
  have Ra5 : Hid (Row encP 2 w5 _ a) := Ra2.out.below K5.out
  have Rc5 : Hid (Row encP 2 w5 _ c) := Rc2.out.below K5.out
  have B5 : Hid (Below w.heap.size w w5) := B2.out.trans (K5.out.mono B2.out.size)
  clear Ra2 Rb2 Rc2 B2 OX4 K4 K5 Rd24 HO5 HB5 oL
  have C5 : Hid _ := Apply_any _ _ a L w5 Ra5.out RL5.out (by omega)
  go_wp2_with fail
  refine Calls.mono C5.out ?_
  rintro e w6 ⟨u1, r1, rfl, or1, hr1, b6⟩
  have Ra6 : Hid (Row encP 2 w6 _ a) := Ra5.out.below b6
  have Rc6 : Hid (Row encP 2 w6 _ c) := Rc5.out.below b6
  have RL6 : Hid (Row encC 3 w6 _ L) := RL5.out.below b6
  have B6 : Hid (Below w.heap.size w w6) := B5.out.trans (b6.mono B5.out.size)
  clear Ra5 Rc5 RL5 B5 b6 C5
  have Rr16 : Hid (Row encP 2 w6 u1 r1) := or1.row
  obtain ⟨xr1, yr1, rfl, _⟩ := id or1
  clear or1
  clear RL6
  have C6 : Hid _ := sort_any _ c w6 Rc6.out (by omega)
  go_wp2_with fail
  refine Calls.mono C6.out ?_
  rintro e w7 ⟨t1, s1, rfl, os1, ss1, ls1, ms1, b7⟩
  have Ra7 : Hid (Row encP 2 w7 _ a) := Ra6.out.below b7
  have Rc7 : Hid (Row encP 2 w7 _ c) := Rc6.out.below b7
  have Rr17 : Hid (Row encP 2 w7 _ r1) := Rr16.out.below b7
  have B7 : Hid (Below w.heap.size w w7) := B6.out.trans (b7.mono B6.out.size)
  clear Ra6 Rc6 Rr16 B6 b7 C6
  have Rs17 : Hid (Row encP 2 w7 t1 s1) := os1.row
  obtain ⟨xs1, ys1, rfl, _⟩ := id os1
  clear os1
  have E1 : Hid (r1 = s1) := ss_ext _ _ hr1.1 ss1 fun x => by rw [hr1.2 x, ← HL.out, aft_append, aft_diff HD1.out.2 x, aft_diff HD2.out.2 x, ms1 x]; simp
  have lr1 : r1.length ≤ 60 := by rw [E1.out]; omega
  have S0 := same_any _ _ r1 s1 w7 Rr17.out Rs17.out (by omega) (by omega)
  rw [decide_eq_true E1.out] at S0
  have C7 : Hid _ := S0
  clear S0
  go_wp2_with fail
  refine Calls.mono C7.out ?_
  rintro e w8 ⟨rfl, b8⟩
  have Ra8 : Hid (Row encP 2 w8 _ a) := Ra7.out.below b8
  have Rc8 : Hid (Row encP 2 w8 _ c) := Rc7.out.below b8
  have Rr18 : Hid (Row encP 2 w8 _ r1) := Rr17.out.below b8
  have Rs18 : Hid (Row encP 2 w8 _ s1) := Rs17.out.below b8
  have B8 : Hid (Below w.heap.size w w8) := B7.out.trans (b8.mono B7.out.size)
  clear Ra7 Rc7 Rr17 Rs17 B7 b8 C7
  clear Rr18 Rs18
  clear E1 hr1 ss1 ms1 HD1 HD2 HL
  have C8 : Hid _ := Diff_any _ _ a c w8 Ra8.out Rc8.out (by omega)
  go_wp2_with fail
  refine Calls.mono C8.out ?_
  rintro e w9 ⟨v7, d7, rfl, od7, hd7, ld7, b9⟩
  have Ra9 : Hid (Row encP 2 w9 _ a) := Ra8.out.below b9
  have Rc9 : Hid (Row encP 2 w9 _ c) := Rc8.out.below b9
  have B9 : Hid (Below w.heap.size w w9) := B8.out.trans (b9.mono B8.out.size)
  clear Ra8 Rc8 B8 b9 C8
  have Rd79 : Hid (Row encC 3 w9 v7 d7) := od7.row
  obtain ⟨xd7, yd7, rfl, _⟩ := id od7
  clear od7
  have C9 : Hid _ := Apply_any _ _ a d7 w9 Ra9.out Rd79.out (by omega)
  go_wp2_with fail
  refine Calls.mono C9.out ?_
  rintro e w10 ⟨u7, r7, rfl, or7, hr7, b10⟩
  have Ra10 : Hid (Row encP 2 w10 _ a) := Ra9.out.below b10
  have Rc10 : Hid (Row encP 2 w10 _ c) := Rc9.out.below b10
  have Rd710 : Hid (Row encC 3 w10 _ d7) := Rd79.out.below b10
  have B10 : Hid (Below w.heap.size w w10) := B9.out.trans (b10.mono B9.out.size)
  clear Ra9 Rc9 Rd79 B9 b10 C9
  have Rr710 : Hid (Row encP 2 w10 u7 r7) := or7.row
  obtain ⟨xr7, yr7, rfl, _⟩ := id or7
  clear or7
  clear Rd710
  have C10 : Hid _ := sort_any _ c w10 Rc10.out (by omega)
  go_wp2_with fail
  refine Calls.mono C10.out ?_
  rintro e w11 ⟨t7, s7, rfl, os7, ss7, ls7, ms7, b11⟩
  have Ra11 : Hid (Row encP 2 w11 _ a) := Ra10.out.below b11
  have Rc11 : Hid (Row encP 2 w11 _ c) := Rc10.out.below b11
  have Rr711 : Hid (Row encP 2 w11 _ r7) := Rr710.out.below b11
  have B11 : Hid (Below w.heap.size w w11) := B10.out.trans (b11.mono B10.out.size)
  clear Ra10 Rc10 Rr710 B10 b11 C10
  have Rs711 : Hid (Row encP 2 w11 t7 s7) := os7.row
  obtain ⟨xs7, ys7, rfl, _⟩ := id os7
  clear os7
  have E7 : Hid (r7 = s7) := ss_ext _ _ hr7.1 ss7 fun x => by rw [hr7.2 x, aft_diff hd7.2 x, ms7 x]; simp
  have lr7 : r7.length ≤ 60 := by rw [E7.out]; omega
  have S0 := same_any _ _ r7 s7 w11 Rr711.out Rs711.out (by omega) (by omega)
  rw [decide_eq_true E7.out] at S0
  have C11 : Hid _ := S0
  clear S0
  go_wp2_with fail
  refine Calls.mono C11.out ?_
  rintro e w12 ⟨rfl, b12⟩
  have Ra12 : Hid (Row encP 2 w12 _ a) := Ra11.out.below b12
  have Rc12 : Hid (Row encP 2 w12 _ c) := Rc11.out.below b12
  have Rr712 : Hid (Row encP 2 w12 _ r7) := Rr711.out.below b12
  have Rs712 : Hid (Row encP 2 w12 _ s7) := Rs711.out.below b12
  have B12 : Hid (Below w.heap.size w w12) := B11.out.trans (b12.mono B11.out.size)
  clear Ra11 Rc11 Rr711 Rs711 B11 b12 C11
  clear Rr712 Rs712
  clear E7 hr7 ss7 ms7 hd7
  go_wp2
  go_ret
  exact ⟨rfl, B12.out⟩

theorem walk (va : Value) (a : List Pr) (vb : Value) (b : List Pr) (vc : Value) (c : List Pr) (w : World) (ha : Row encP 2 w va a) (hb : Row encP 2 w vb b) (hc : Row encP 2 w vc c) : Calls Try.prog 4 #[va, vb, vc] w fun e w' => e = .returned (.bool true) ∧ Below w.heap.size w w' := by
  by_cases la : a.length ≤ 60
  rotate_left
  · exact long_a va a vb b vc c w ha hb hc  (by omega)
  by_cases lb : b.length ≤ 60
  rotate_left
  · exact long_b va a vb b vc c w ha hb hc la (by omega)
  by_cases lc : c.length ≤ 60
  · exact short va a vb b vc c w ha hb hc la lb lc
  · exact long_c va a vb b vc c w ha hb hc la lb (by omega)
end edgeSteps
end Go.Proofs.Ytifeeneojlhffab

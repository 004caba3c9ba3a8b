/-
  The walk of the law RootNewer: the newer root is picked, in whichever slot it stands; a slot that has none does not count.
-/
import Derived.Test.YtalljfckjkbieaaDoorRsWorks
import Derived.Test.YtalljfckjkbieaaDoorRsRef
namespace Go.Proofs.YtalljfckjkbieaaDoor
open Go.RowKit

set_option maxRecDepth 100000 in
set_option maxHeartbeats 2000000 in
theorem newer_long (a b : Rt) (s : ByteArray) (w : World) (T : Tab w) (hm : s.size ≤ maxLen) (h1 : 1000 < s.size) : Calls Tryd.prog 8 #[rtV a, rtV b, .string s] w fun e w' => e = .returned (.bool true) ∧ Below w.heap.size w w' := by
  have CW : Hid (∀ u, Tab u → Calls Tryd.prog 9 #[] u fun e w' => e = .returned (.bool true) ∧ Below u.heap.size u w') := works_any
  have TAB : Hid (Tab w) := T
  unfold maxLen at *
  clear T
  obtain ⟨n0, n1, n2, n3, n4⟩ := a
  obtain ⟨m0, m1, m2, m3, m4⟩ := b
  unfold rtV at *
  (try unfold rt0 at *)
  dsimp only at *
  go_enter Tryd.func8, Tryd.ntmps8
  go_wp2_with fail
  have N4 : Hid (Cl ((w.alloc (.cells #[.int .i64 n0, .int .i64 n1, .int .i64 n2, .int .i64 n3, .int .i64 n4] 23)).alloc (.cells #[.int .i64 m0, .int .i64 m1, .int .i64 m2, .int .i64 m3, .int .i64 m4] 23)) w.heap.size #[.int .i64 n0, .int .i64 n1, .int .i64 n2, .int .i64 n3, .int .i64 n4] 23) := Cl.alloc (Cl.new _ _ _) _
  have N5 : Hid (Cl ((w.alloc (.cells #[.int .i64 n0, .int .i64 n1, .int .i64 n2, .int .i64 n3, .int .i64 n4] 23)).alloc (.cells #[.int .i64 m0, .int .i64 m1, .int .i64 m2, .int .i64 m3, .int .i64 m4] 23)) (w.heap.size + 1) #[.int .i64 m0, .int .i64 m1, .int .i64 m2, .int .i64 m3, .int .i64 m4] 23) := by
    have := Cl.new (w.alloc (.cells #[.int .i64 n0, .int .i64 n1, .int .i64 n2, .int .i64 n3, .int .i64 n4] 23)) #[.int .i64 m0, .int .i64 m1, .int .i64 m2, .int .i64 m3, .int .i64 m4] 23
    rw [show (w.alloc (.cells #[.int .i64 n0, .int .i64 n1, .int .i64 n2, .int .i64 n3, .int .i64 n4] 23)).heap.size = w.heap.size + 1 by simp] at this
    exact this
  have B3 : Hid (Below w.heap.size w ((w.alloc (.cells #[.int .i64 n0, .int .i64 n1, .int .i64 n2, .int .i64 n3, .int .i64 n4] 23)).alloc (.cells #[.int .i64 m0, .int .i64 m1, .int .i64 m2, .int .i64 m3, .int .i64 m4] 23))) := ((Below.refl _ _).alloc (Nat.le_refl _) _).alloc (by simp) _
  have L6 : Hid (w.heap.size ≤ w.heap.size) := Nat.le_refl _
  have L7 : Hid (w.heap.size ≤ w.heap.size + 1) := Nat.le_succ _
  generalize (w.alloc (.cells #[.int .i64 n0, .int .i64 n1, .int .i64 n2, .int .i64 n3, .int .i64 n4] 23)).alloc (.cells #[.int .i64 m0, .int .i64 m1, .int .i64 m2, .int .i64 m3, .int .i64 m4] 23) = v1 at *
  generalize w.heap.size + 1 = q2 at *
  refine Calls.mono (CW.out _ (TAB.out.below B3.out)) ?_
  rintro e v8 ⟨rfl, b9⟩
  have N11 : Hid (Cl v8 w.heap.size #[.int .i64 n0, .int .i64 n1, .int .i64 n2, .int .i64 n3, .int .i64 n4] 23) := Cl.on N4.out b9
  have N12 : Hid (Cl v8 q2 #[.int .i64 m0, .int .i64 m1, .int .i64 m2, .int .i64 m3, .int .i64 m4] 23) := Cl.on N5.out b9
  have B10 : Hid (Below w.heap.size w v8) := B3.out.trans (b9.mono B3.out.size)
  clear b9 N4 N5 B3
  go_wp2
  go_ret
  exact ⟨rfl, B10.out⟩

set_option maxRecDepth 100000 in
set_option maxHeartbeats 2000000 in
theorem newer_no1 (a b : Rt) (s : ByteArray) (w : World) (T : Tab w) (hm : s.size ≤ maxLen) (h1 : ¬ 1000 < s.size) (ha : a.ok = false) : Calls Tryd.prog 8 #[rtV a, rtV b, .string s] w fun e w' => e = .returned (.bool true) ∧ Below w.heap.size w w' := by
  have CW : Hid (∀ u, Tab u → Calls Tryd.prog 9 #[] u fun e w' => e = .returned (.bool true) ∧ Below u.heap.size u w') := works_any
  have TAB : Hid (Tab w) := T
  have D1 : Hid (∀ u, Tab u → Calls Tryd.prog 12 #[.string s] u fun e w' => e = .returned (.tuple #[rtV (decR s.data.toList), .bool (decB s.data.toList)]) ∧ Below u.heap.size u w') := fun u hu => dec_any s hm u hu
  generalize decB s.data.toList = p at *
  generalize decR s.data.toList = x at *
  obtain ⟨k0, k1, k2, k3, k4⟩ := x
  have E1 : Hid (∀ u, Tab u → Calls Tryd.prog 10 #[rtV a] u fun e w' => e = .returned (.tuple #[.string ⟨#[]⟩, .int .i64 1]) ∧ Below u.heap.size u w') := fun u hu => enc_not ha u hu
  have E2 : Hid (∀ u, Tab u → Calls Tryd.prog 10 #[rtV b] u fun e w' => e = .returned (.tuple #[.string ⟨(encS b).toArray⟩, .int .i64 (encE b)]) ∧ Below u.heap.size u w') := fun u hu => enc_any b u hu
  generalize (⟨(encS b).toArray⟩ : ByteArray) = sb at *
  generalize encE b = eb at *
  clear ha
  unfold maxLen at *
  clear T
  obtain ⟨n0, n1, n2, n3, n4⟩ := a
  obtain ⟨m0, m1, m2, m3, m4⟩ := b
  unfold rtV at *
  (try unfold rt0 at *)
  dsimp only at *
  go_enter Tryd.func8, Tryd.ntmps8
  go_wp2_with fail
  have N4 : Hid (Cl ((w.alloc (.cells #[.int .i64 n0, .int .i64 n1, .int .i64 n2, .int .i64 n3, .int .i64 n4] 23)).alloc (.cells #[.int .i64 m0, .int .i64 m1, .int .i64 m2, .int .i64 m3, .int .i64 m4] 23)) w.heap.size #[.int .i64 n0, .int .i64 n1, .int .i64 n2, .int .i64 n3, .int .i64 n4] 23) := Cl.alloc (Cl.new _ _ _) _
  have N5 : Hid (Cl ((w.alloc (.cells #[.int .i64 n0, .int .i64 n1, .int .i64 n2, .int .i64 n3, .int .i64 n4] 23)).alloc (.cells #[.int .i64 m0, .int .i64 m1, .int .i64 m2, .int .i64 m3, .int .i64 m4] 23)) (w.heap.size + 1) #[.int .i64 m0, .int .i64 m1, .int .i64 m2, .int .i64 m3, .int .i64 m4] 23) := by
    have := Cl.new (w.alloc (.cells #[.int .i64 n0, .int .i64 n1, .int .i64 n2, .int .i64 n3, .int .i64 n4] 23)) #[.int .i64 m0, .int .i64 m1, .int .i64 m2, .int .i64 m3, .int .i64 m4] 23
    rw [show (w.alloc (.cells #[.int .i64 n0, .int .i64 n1, .int .i64 n2, .int .i64 n3, .int .i64 n4] 23)).heap.size = w.heap.size + 1 by simp] at this
    exact this
  have B3 : Hid (Below w.heap.size w ((w.alloc (.cells #[.int .i64 n0, .int .i64 n1, .int .i64 n2, .int .i64 n3, .int .i64 n4] 23)).alloc (.cells #[.int .i64 m0, .int .i64 m1, .int .i64 m2, .int .i64 m3, .int .i64 m4] 23))) := ((Below.refl _ _).alloc (Nat.le_refl _) _).alloc (by simp) _
  have L6 : Hid (w.heap.size ≤ w.heap.size) := Nat.le_refl _
  have L7 : Hid (w.heap.size ≤ w.heap.size + 1) := Nat.le_succ _
  generalize (w.alloc (.cells #[.int .i64 n0, .int .i64 n1, .int .i64 n2, .int .i64 n3, .int .i64 n4] 23)).alloc (.cells #[.int .i64 m0, .int .i64 m1, .int .i64 m2, .int .i64 m3, .int .i64 m4] 23) = v1 at *
  generalize w.heap.size + 1 = q2 at *
  refine Calls.mono (CW.out _ (TAB.out.below B3.out)) ?_
  rintro e v8 ⟨rfl, b9⟩
  have N11 : Hid (Cl v8 w.heap.size #[.int .i64 n0, .int .i64 n1, .int .i64 n2, .int .i64 n3, .int .i64 n4] 23) := Cl.on N4.out b9
  have N12 : Hid (Cl v8 q2 #[.int .i64 m0, .int .i64 m1, .int .i64 m2, .int .i64 m3, .int .i64 m4] 23) := Cl.on N5.out b9
  have B10 : Hid (Below w.heap.size w v8) := B3.out.trans (b9.mono B3.out.size)
  clear b9 N4 N5 B3
  obtain ⟨c13_0, c13_1, c13_2, c13_3, c13_4⟩ := N11.out.five
  go_wp2_with fail
  clear c13_0 c13_1 c13_2 c13_3 c13_4
  refine Calls.mono (E1.out _ (TAB.out.below B10.out)) ?_
  rintro e v14 ⟨rfl, b15⟩
  have N17 : Hid (Cl v14 w.heap.size #[.int .i64 n0, .int .i64 n1, .int .i64 n2, .int .i64 n3, .int .i64 n4] 23) := Cl.on N11.out b15
  have N18 : Hid (Cl v14 q2 #[.int .i64 m0, .int .i64 m1, .int .i64 m2, .int .i64 m3, .int .i64 m4] 23) := Cl.on N12.out b15
  have B16 : Hid (Below w.heap.size w v14) := B10.out.trans (b15.mono B10.out.size)
  clear b15 N11 N12 B10
  obtain ⟨c19_0, c19_1, c19_2, c19_3, c19_4⟩ := N18.out.five
  go_wp2_with fail
  clear c19_0 c19_1 c19_2 c19_3 c19_4
  refine Calls.mono (E2.out _ (TAB.out.below B16.out)) ?_
  rintro e v20 ⟨rfl, b21⟩
  have N23 : Hid (Cl v20 w.heap.size #[.int .i64 n0, .int .i64 n1, .int .i64 n2, .int .i64 n3, .int .i64 n4] 23) := Cl.on N17.out b21
  have N24 : Hid (Cl v20 q2 #[.int .i64 m0, .int .i64 m1, .int .i64 m2, .int .i64 m3, .int .i64 m4] 23) := Cl.on N18.out b21
  have B22 : Hid (Below w.heap.size w v20) := B16.out.trans (b21.mono B16.out.size)
  clear b21 N17 N18 B16
  go_wp2_with fail
  refine Calls.mono (D1.out _ (TAB.out.below B22.out)) ?_
  rintro e v25 ⟨rfl, b26⟩
  have N28 : Hid (Cl v25 w.heap.size #[.int .i64 n0, .int .i64 n1, .int .i64 n2, .int .i64 n3, .int .i64 n4] 23) := Cl.on N23.out b26
  have N29 : Hid (Cl v25 q2 #[.int .i64 m0, .int .i64 m1, .int .i64 m2, .int .i64 m3, .int .i64 m4] 23) := Cl.on N24.out b26
  have B27 : Hid (Below w.heap.size w v25) := B22.out.trans (b26.mono B22.out.size)
  clear b26 N23 N24 B22
  go_upto_region 9 with fail
  have N33 : Hid (Cl (v25.alloc (.cells #[.int .i64 k0, .int .i64 k1, .int .i64 k2, .int .i64 k3, .int .i64 k4] 23)) v25.heap.size #[.int .i64 k0, .int .i64 k1, .int .i64 k2, .int .i64 k3, .int .i64 k4] 23) := Cl.new v25 #[.int .i64 k0, .int .i64 k1, .int .i64 k2, .int .i64 k3, .int .i64 k4] 23
  have B32 : Hid (Below w.heap.size w (v25.alloc (.cells #[.int .i64 k0, .int .i64 k1, .int .i64 k2, .int .i64 k3, .int .i64 k4] 23))) := B27.out.alloc B27.out.size _
  have L34 : Hid (w.heap.size ≤ v25.heap.size) := B27.out.size
  have N35 : Hid (Cl (v25.alloc (.cells #[.int .i64 k0, .int .i64 k1, .int .i64 k2, .int .i64 k3, .int .i64 k4] 23)) w.heap.size #[.int .i64 n0, .int .i64 n1, .int .i64 n2, .int .i64 n3, .int .i64 n4] 23) := Cl.alloc N28.out _
  have N36 : Hid (Cl (v25.alloc (.cells #[.int .i64 k0, .int .i64 k1, .int .i64 k2, .int .i64 k3, .int .i64 k4] 23)) q2 #[.int .i64 m0, .int .i64 m1, .int .i64 m2, .int .i64 m3, .int .i64 m4] 23) := Cl.alloc N29.out _
  clear N28 N29 B27
  generalize v25.alloc (.cells #[.int .i64 k0, .int .i64 k1, .int .i64 k2, .int .i64 k3, .int .i64 k4] 23) = v30 at *
  generalize v25.heap.size = q31 at *
  go_wp2
  go_ret
  exact ⟨rfl, B32.out⟩

set_option maxRecDepth 100000 in
set_option maxHeartbeats 2000000 in
theorem newer_no2 (a b : Rt) (s : ByteArray) (w : World) (T : Tab w) (hm : s.size ≤ maxLen) (h1 : ¬ 1000 < s.size) (ha : a.ok = true) (hb : b.ok = false) : Calls Tryd.prog 8 #[rtV a, rtV b, .string s] w fun e w' => e = .returned (.bool true) ∧ Below w.heap.size w w' := by
  have CW : Hid (∀ u, Tab u → Calls Tryd.prog 9 #[] u fun e w' => e = .returned (.bool true) ∧ Below u.heap.size u w') := works_any
  have TAB : Hid (Tab w) := T
  have D1 : Hid (∀ u, Tab u → Calls Tryd.prog 12 #[.string s] u fun e w' => e = .returned (.tuple #[rtV (decR s.data.toList), .bool (decB s.data.toList)]) ∧ Below u.heap.size u w') := fun u hu => dec_any s hm u hu
  generalize decB s.data.toList = p at *
  generalize decR s.data.toList = x at *
  obtain ⟨k0, k1, k2, k3, k4⟩ := x
  have E1 : Hid (∀ u, Tab u → Calls Tryd.prog 10 #[rtV a] u fun e w' => e = .returned (.tuple #[.string ⟨(slotL a).toArray⟩, .int .i64 0]) ∧ Below u.heap.size u w') := fun u hu => enc_yes ha u hu
  have E2 : Hid (∀ u, Tab u → Calls Tryd.prog 10 #[rtV b] u fun e w' => e = .returned (.tuple #[.string ⟨#[]⟩, .int .i64 1]) ∧ Below u.heap.size u w') := fun u hu => enc_not hb u hu
  generalize (⟨(slotL a).toArray⟩ : ByteArray) = sa at *
  clear ha hb
  unfold maxLen at *
  clear T
  obtain ⟨n0, n1, n2, n3, n4⟩ := a
  obtain ⟨m0, m1, m2, m3, m4⟩ := b
  unfold rtV at *
  (try unfold rt0 at *)
  dsimp only at *
  go_enter Tryd.func8, Tryd.ntmps8
  go_wp2_with fail
  have N4 : Hid (Cl ((w.alloc (.cells #[.int .i64 n0, .int .i64 n1, .int .i64 n2, .int .i64 n3, .int .i64 n4] 23)).alloc (.cells #[.int .i64 m0, .int .i64 m1, .int .i64 m2, .int .i64 m3, .int .i64 m4] 23)) w.heap.size #[.int .i64 n0, .int .i64 n1, .int .i64 n2, .int .i64 n3, .int .i64 n4] 23) := Cl.alloc (Cl.new _ _ _) _
  have N5 : Hid (Cl ((w.alloc (.cells #[.int .i64 n0, .int .i64 n1, .int .i64 n2, .int .i64 n3, .int .i64 n4] 23)).alloc (.cells #[.int .i64 m0, .int .i64 m1, .int .i64 m2, .int .i64 m3, .int .i64 m4] 23)) (w.heap.size + 1) #[.int .i64 m0, .int .i64 m1, .int .i64 m2, .int .i64 m3, .int .i64 m4] 23) := by
    have := Cl.new (w.alloc (.cells #[.int .i64 n0, .int .i64 n1, .int .i64 n2, .int .i64 n3, .int .i64 n4] 23)) #[.int .i64 m0, .int .i64 m1, .int .i64 m2, .int .i64 m3, .int .i64 m4] 23
    rw [show (w.alloc (.cells #[.int .i64 n0, .int .i64 n1, .int .i64 n2, .int .i64 n3, .int .i64 n4] 23)).heap.size = w.heap.size + 1 by simp] at this
    exact this
  have B3 : Hid (Below w.heap.size w ((w.alloc (.cells #[.int .i64 n0, .int .i64 n1, .int .i64 n2, .int .i64 n3, .int .i64 n4] 23)).alloc (.cells #[.int .i64 m0, .int .i64 m1, .int .i64 m2, .int .i64 m3, .int .i64 m4] 23))) := ((Below.refl _ _).alloc (Nat.le_refl _) _).alloc (by simp) _
  have L6 : Hid (w.heap.size ≤ w.heap.size) := Nat.le_refl _
  have L7 : Hid (w.heap.size ≤ w.heap.size + 1) := Nat.le_succ _
  generalize (w.alloc (.cells #[.int .i64 n0, .int .i64 n1, .int .i64 n2, .int .i64 n3, .int .i64 n4] 23)).alloc (.cells #[.int .i64 m0, .int .i64 m1, .int .i64 m2, .int .i64 m3, .int .i64 m4] 23) = v1 at *
  generalize w.heap.size + 1 = q2 at *
  refine Calls.mono (CW.out _ (TAB.out.below B3.out)) ?_
  rintro e v8 ⟨rfl, b9⟩
  have N11 : Hid (Cl v8 w.heap.size #[.int .i64 n0, .int .i64 n1, .int .i64 n2, .int .i64 n3, .int .i64 n4] 23) := Cl.on N4.out b9
  have N12 : Hid (Cl v8 q2 #[.int .i64 m0, .int .i64 m1, .int .i64 m2, .int .i64 m3, .int .i64 m4] 23) := Cl.on N5.out b9
  have B10 : Hid (Below w.heap.size w v8) := B3.out.trans (b9.mono B3.out.size)
  clear b9 N4 N5 B3
  obtain ⟨c13_0, c13_1, c13_2, c13_3, c13_4⟩ := N11.out.five
  go_wp2_with fail
  clear c13_0 c13_1 c13_2 c13_3 c13_4
  refine Calls.mono (E1.out _ (TAB.out.below B10.out)) ?_
  rintro e v14 ⟨rfl, b15⟩
  have N17 : Hid (Cl v14 w.heap.size #[.int .i64 n0, .int .i64 n1, .int .i64 n2, .int .i64 n3, .int .i64 n4] 23) := Cl.on N11.out b15
  have N18 : Hid (Cl v14 q2 #[.int .i64 m0, .int .i64 m1, .int .i64 m2, .int .i64 m3, .int .i64 m4] 23) := Cl.on N12.out b15
  have B16 : Hid (Below w.heap.size w v14) := B10.out.trans (b15.mono B10.out.size)
  clear b15 N11 N12 B10
  obtain ⟨c19_0, c19_1, c19_2, c19_3, c19_4⟩ := N18.out.five
  go_wp2_with fail
  clear c19_0 c19_1 c19_2 c19_3 c19_4
  refine Calls.mono (E2.out _ (TAB.out.below B16.out)) ?_
  rintro e v20 ⟨rfl, b21⟩
  have N23 : Hid (Cl v20 w.heap.size #[.int .i64 n0, .int .i64 n1, .int .i64 n2, .int .i64 n3, .int .i64 n4] 23) := Cl.on N17.out b21
  have N24 : Hid (Cl v20 q2 #[.int .i64 m0, .int .i64 m1, .int .i64 m2, .int .i64 m3, .int .i64 m4] 23) := Cl.on N18.out b21
  have B22 : Hid (Below w.heap.size w v20) := B16.out.trans (b21.mono B16.out.size)
  clear b21 N17 N18 B16
  go_wp2_with fail
  refine Calls.mono (D1.out _ (TAB.out.below B22.out)) ?_
  rintro e v25 ⟨rfl, b26⟩
  have N28 : Hid (Cl v25 w.heap.size #[.int .i64 n0, .int .i64 n1, .int .i64 n2, .int .i64 n3, .int .i64 n4] 23) := Cl.on N23.out b26
  have N29 : Hid (Cl v25 q2 #[.int .i64 m0, .int .i64 m1, .int .i64 m2, .int .i64 m3, .int .i64 m4] 23) := Cl.on N24.out b26
  have B27 : Hid (Below w.heap.size w v25) := B22.out.trans (b26.mono B22.out.size)
  clear b26 N23 N24 B22
  go_upto_region 9 with fail
  have N33 : Hid (Cl (v25.alloc (.cells #[.int .i64 k0, .int .i64 k1, .int .i64 k2, .int .i64 k3, .int .i64 k4] 23)) v25.heap.size #[.int .i64 k0, .int .i64 k1, .int .i64 k2, .int .i64 k3, .int .i64 k4] 23) := Cl.new v25 #[.int .i64 k0, .int .i64 k1, .int .i64 k2, .int .i64 k3, .int .i64 k4] 23
  have B32 : Hid (Below w.heap.size w (v25.alloc (.cells #[.int .i64 k0, .int .i64 k1, .int .i64 k2, .int .i64 k3, .int .i64 k4] 23))) := B27.out.alloc B27.out.size _
  have L34 : Hid (w.heap.size ≤ v25.heap.size) := B27.out.size
  have N35 : Hid (Cl (v25.alloc (.cells #[.int .i64 k0, .int .i64 k1, .int .i64 k2, .int .i64 k3, .int .i64 k4] 23)) w.heap.size #[.int .i64 n0, .int .i64 n1, .int .i64 n2, .int .i64 n3, .int .i64 n4] 23) := Cl.alloc N28.out _
  have N36 : Hid (Cl (v25.alloc (.cells #[.int .i64 k0, .int .i64 k1, .int .i64 k2, .int .i64 k3, .int .i64 k4] 23)) q2 #[.int .i64 m0, .int .i64 m1, .int .i64 m2, .int .i64 m3, .int .i64 m4] 23) := Cl.alloc N29.out _
  clear N28 N29 B27
  generalize v25.alloc (.cells #[.int .i64 k0, .int .i64 k1, .int .i64 k2, .int .i64 k3, .int .i64 k4] 23) = v30 at *
  generalize v25.heap.size = q31 at *
  go_wp2
  go_ret
  exact ⟨rfl, B32.out⟩

set_option maxRecDepth 100000 in
set_option maxHeartbeats 2000000 in
theorem newer_no3 (a b : Rt) (s : ByteArray) (w : World) (T : Tab w) (hm : s.size ≤ maxLen) (h1 : ¬ 1000 < s.size) (ha : a.ok = true) (hb : b.ok = true) (hd : decB s.data.toList = true) : Calls Tryd.prog 8 #[rtV a, rtV b, .string s] w fun e w' => e = .returned (.bool true) ∧ Below w.heap.size w w' := by
  have CW : Hid (∀ u, Tab u → Calls Tryd.prog 9 #[] u fun e w' => e = .returned (.bool true) ∧ Below u.heap.size u w') := works_any
  have TAB : Hid (Tab w) := T
  have D1 : Hid (∀ u, Tab u → Calls Tryd.prog 12 #[.string s] u fun e w' => e = .returned (.tuple #[rtV (decR s.data.toList), .bool (decB s.data.toList)]) ∧ Below u.heap.size u w') := fun u hu => dec_any s hm u hu
  rw [hd] at D1
  clear hd
  generalize decR s.data.toList = x at *
  obtain ⟨k0, k1, k2, k3, k4⟩ := x
  have E1 : Hid (∀ u, Tab u → Calls Tryd.prog 10 #[rtV a] u fun e w' => e = .returned (.tuple #[.string ⟨(slotL a).toArray⟩, .int .i64 0]) ∧ Below u.heap.size u w') := fun u hu => enc_yes ha u hu
  have E2 : Hid (∀ u, Tab u → Calls Tryd.prog 10 #[rtV b] u fun e w' => e = .returned (.tuple #[.string ⟨(slotL b).toArray⟩, .int .i64 0]) ∧ Below u.heap.size u w') := fun u hu => enc_yes hb u hu
  generalize (⟨(slotL a).toArray⟩ : ByteArray) = sa at *
  generalize (⟨(slotL b).toArray⟩ : ByteArray) = sb at *
  clear ha hb
  unfold maxLen at *
  clear T
  obtain ⟨n0, n1, n2, n3, n4⟩ := a
  obtain ⟨m0, m1, m2, m3, m4⟩ := b
  unfold rtV at *
  (try unfold rt0 at *)
  dsimp only at *
  go_enter Tryd.func8, Tryd.ntmps8
  go_wp2_with fail
  have N4 : Hid (Cl ((w.alloc (.cells #[.int .i64 n0, .int .i64 n1, .int .i64 n2, .int .i64 n3, .int .i64 n4] 23)).alloc (.cells #[.int .i64 m0, .int .i64 m1, .int .i64 m2, .int .i64 m3, .int .i64 m4] 23)) w.heap.size #[.int .i64 n0, .int .i64 n1, .int .i64 n2, .int .i64 n3, .int .i64 n4] 23) := Cl.alloc (Cl.new _ _ _) _
  have N5 : Hid (Cl ((w.alloc (.cells #[.int .i64 n0, .int .i64 n1, .int .i64 n2, .int .i64 n3, .int .i64 n4] 23)).alloc (.cells #[.int .i64 m0, .int .i64 m1, .int .i64 m2, .int .i64 m3, .int .i64 m4] 23)) (w.heap.size + 1) #[.int .i64 m0, .int .i64 m1, .int .i64 m2, .int .i64 m3, .int .i64 m4] 23) := by
    have := Cl.new (w.alloc (.cells #[.int .i64 n0, .int .i64 n1, .int .i64 n2, .int .i64 n3, .int .i64 n4] 23)) #[.int .i64 m0, .int .i64 m1, .int .i64 m2, .int .i64 m3, .int .i64 m4] 23
    rw [show (w.alloc (.cells #[.int .i64 n0, .int .i64 n1, .int .i64 n2, .int .i64 n3, .int .i64 n4] 23)).heap.size = w.heap.size + 1 by simp] at this
    exact this
  have B3 : Hid (Below w.heap.size w ((w.alloc (.cells #[.int .i64 n0, .int .i64 n1, .int .i64 n2, .int .i64 n3, .int .i64 n4] 23)).alloc (.cells #[.int .i64 m0, .int .i64 m1, .int .i64 m2, .int .i64 m3, .int .i64 m4] 23))) := ((Below.refl _ _).alloc (Nat.le_refl _) _).alloc (by simp) _
  have L6 : Hid (w.heap.size ≤ w.heap.size) := Nat.le_refl _
  have L7 : Hid (w.heap.size ≤ w.heap.size + 1) := Nat.le_succ _
  generalize (w.alloc (.cells #[.int .i64 n0, .int .i64 n1, .int .i64 n2, .int .i64 n3, .int .i64 n4] 23)).alloc (.cells #[.int .i64 m0, .int .i64 m1, .int .i64 m2, .int .i64 m3, .int .i64 m4] 23) = v1 at *
  generalize w.heap.size + 1 = q2 at *
  refine Calls.mono (CW.out _ (TAB.out.below B3.out)) ?_
  rintro e v8 ⟨rfl, b9⟩
  have N11 : Hid (Cl v8 w.heap.size #[.int .i64 n0, .int .i64 n1, .int .i64 n2, .int .i64 n3, .int .i64 n4] 23) := Cl.on N4.out b9
  have N12 : Hid (Cl v8 q2 #[.int .i64 m0, .int .i64 m1, .int .i64 m2, .int .i64 m3, .int .i64 m4] 23) := Cl.on N5.out b9
  have B10 : Hid (Below w.heap.size w v8) := B3.out.trans (b9.mono B3.out.size)
  clear b9 N4 N5 B3
  obtain ⟨c13_0, c13_1, c13_2, c13_3, c13_4⟩ := N11.out.five
  go_wp2_with fail
  clear c13_0 c13_1 c13_2 c13_3 c13_4
  refine Calls.mono (E1.out _ (TAB.out.below B10.out)) ?_
  rintro e v14 ⟨rfl, b15⟩
  have N17 : Hid (Cl v14 w.heap.size #[.int .i64 n0, .int .i64 n1, .int .i64 n2, .int .i64 n3, .int .i64 n4] 23) := Cl.on N11.out b15
  have N18 : Hid (Cl v14 q2 #[.int .i64 m0, .int .i64 m1, .int .i64 m2, .int .i64 m3, .int .i64 m4] 23) := Cl.on N12.out b15
  have B16 : Hid (Below w.heap.size w v14) := B10.out.trans (b15.mono B10.out.size)
  clear b15 N11 N12 B10
  obtain ⟨c19_0, c19_1, c19_2, c19_3, c19_4⟩ := N18.out.five
  go_wp2_with fail
  clear c19_0 c19_1 c19_2 c19_3 c19_4
  refine Calls.mono (E2.out _ (TAB.out.below B16.out)) ?_
  rintro e v20 ⟨rfl, b21⟩
  have N23 : Hid (Cl v20 w.heap.size #[.int .i64 n0, .int .i64 n1, .int .i64 n2, .int .i64 n3, .int .i64 n4] 23) := Cl.on N17.out b21
  have N24 : Hid (Cl v20 q2 #[.int .i64 m0, .int .i64 m1, .int .i64 m2, .int .i64 m3, .int .i64 m4] 23) := Cl.on N18.out b21
  have B22 : Hid (Below w.heap.size w v20) := B16.out.trans (b21.mono B16.out.size)
  clear b21 N17 N18 B16
  go_wp2_with fail
  refine Calls.mono (D1.out _ (TAB.out.below B22.out)) ?_
  rintro e v25 ⟨rfl, b26⟩
  have N28 : Hid (Cl v25 w.heap.size #[.int .i64 n0, .int .i64 n1, .int .i64 n2, .int .i64 n3, .int .i64 n4] 23) := Cl.on N23.out b26
  have N29 : Hid (Cl v25 q2 #[.int .i64 m0, .int .i64 m1, .int .i64 m2, .int .i64 m3, .int .i64 m4] 23) := Cl.on N24.out b26
  have B27 : Hid (Below w.heap.size w v25) := B22.out.trans (b26.mono B22.out.size)
  clear b26 N23 N24 B22
  go_upto_region 9 with fail
  have N33 : Hid (Cl (v25.alloc (.cells #[.int .i64 k0, .int .i64 k1, .int .i64 k2, .int .i64 k3, .int .i64 k4] 23)) v25.heap.size #[.int .i64 k0, .int .i64 k1, .int .i64 k2, .int .i64 k3, .int .i64 k4] 23) := Cl.new v25 #[.int .i64 k0, .int .i64 k1, .int .i64 k2, .int .i64 k3, .int .i64 k4] 23
  have B32 : Hid (Below w.heap.size w (v25.alloc (.cells #[.int .i64 k0, .int .i64 k1, .int .i64 k2, .int .i64 k3, .int .i64 k4] 23))) := B27.out.alloc B27.out.size _
  have L34 : Hid (w.heap.size ≤ v25.heap.size) := B27.out.size
  have N35 : Hid (Cl (v25.alloc (.cells #[.int .i64 k0, .int .i64 k1, .int .i64 k2, .int .i64 k3, .int .i64 k4] 23)) w.heap.size #[.int .i64 n0, .int .i64 n1, .int .i64 n2, .int .i64 n3, .int .i64 n4] 23) := Cl.alloc N28.out _
  have N36 : Hid (Cl (v25.alloc (.cells #[.int .i64 k0, .int .i64 k1, .int .i64 k2, .int .i64 k3, .int .i64 k4] 23)) q2 #[.int .i64 m0, .int .i64 m1, .int .i64 m2, .int .i64 m3, .int .i64 m4] 23) := Cl.alloc N29.out _
  clear N28 N29 B27
  generalize v25.alloc (.cells #[.int .i64 k0, .int .i64 k1, .int .i64 k2, .int .i64 k3, .int .i64 k4] 23) = v30 at *
  generalize v25.heap.size = q31 at *
  go_wp2
  go_ret
  exact ⟨rfl, B32.out⟩

theorem pk_gt {a b : Rt} (ha : a.ok = true) (hb : b.ok = true) (h : a.ep < b.ep) : pkR (slotL a) (slotL b) = b := by
  rw [pkR_right (by rw [decR_slot ha, decR_slot hb]; exact h), decR_slot hb]
theorem pk_le {a b : Rt} (ha : a.ok = true) (hb : b.ok = true) (h : ¬ a.ep < b.ep) : pkR (slotL a) (slotL b) = a := by
  rw [pkR_left (by rw [decR_slot ha, decR_slot hb]; exact h), decR_slot ha]

set_option maxRecDepth 100000 in
set_option maxHeartbeats 2000000 in
theorem newer_gt (a b : Rt) (s : ByteArray) (w : World) (T : Tab w) (hm : s.size ≤ maxLen) (h1 : ¬ 1000 < s.size) (ha : a.ok = true) (hb : b.ok = true) (hd : decB s.data.toList = false) (h2 : b.ep < a.ep) : Calls Tryd.prog 8 #[rtV a, rtV b, .string s] w fun e w' => e = .returned (.bool true) ∧ Below w.heap.size w w' := by
  have CW : Hid (∀ u, Tab u → Calls Tryd.prog 9 #[] u fun e w' => e = .returned (.bool true) ∧ Below u.heap.size u w') := works_any
  have TAB : Hid (Tab w) := T
  have es : s = ⟨s.data.toList.toArray⟩ := rfl
  have hl : s.data.toList.length ≤ maxLen := by rw [len_of]; exact hm
  have D1 : Hid (∀ u, Tab u → Calls Tryd.prog 12 #[.string ⟨s.data.toList.toArray⟩] u fun e w' => e = .returned (.tuple #[rtV rt0, .bool false]) ∧ Below u.heap.size u w') := fun u hu => dec_to s.data.toList hl rt0 false (decR_no hd) hd u hu
  have P1 : Hid (∀ u, Tab u → Calls Tryd.prog 14 #[.string ⟨(slotL a).toArray⟩, .string ⟨(slotL b).toArray⟩] u fun e w' => e = .returned (.tuple #[rtV a, .int .i64 0]) ∧ Below u.heap.size u w') := fun u hu => pick_to (slotL a) (slotL b) (slot_small a) (slot_small b) a 0 (pk_le ha hb (by omega)) (pkE_left (decB_slot ha)) u hu
  have P2 : Hid (∀ u, Tab u → Calls Tryd.prog 14 #[.string ⟨(slotL b).toArray⟩, .string ⟨(slotL a).toArray⟩] u fun e w' => e = .returned (.tuple #[rtV a, .int .i64 0]) ∧ Below u.heap.size u w') := fun u hu => pick_to (slotL b) (slotL a) (slot_small b) (slot_small a) a 0 (pk_gt hb ha h2) (pkE_left (decB_slot hb)) u hu
  have P3 : Hid (∀ u, Tab u → Calls Tryd.prog 14 #[.string ⟨(slotL a).toArray⟩, .string ⟨s.data.toList.toArray⟩] u fun e w' => e = .returned (.tuple #[rtV a, .int .i64 0]) ∧ Below u.heap.size u w') := fun u hu => pick_to (slotL a) s.data.toList (slot_small a) hl a 0 ((pkR_first (decB_slot ha) hd).trans (decR_slot ha)) (pkE_left (decB_slot ha)) u hu
  have P4 : Hid (∀ u, Tab u → Calls Tryd.prog 14 #[.string ⟨s.data.toList.toArray⟩, .string ⟨(slotL a).toArray⟩] u fun e w' => e = .returned (.tuple #[rtV a, .int .i64 0]) ∧ Below u.heap.size u w') := fun u hu => pick_to s.data.toList (slotL a) hl (slot_small a) a 0 ((pkR_second hd (decB_slot ha)).trans (decR_slot ha)) (pkE_right (decB_slot ha)) u hu
  have P5 : Hid (∀ u, Tab u → Calls Tryd.prog 14 #[.string ⟨s.data.toList.toArray⟩, .string ⟨s.data.toList.toArray⟩] u fun e w' => e = .returned (.tuple #[rtV rt0, .int .i64 70]) ∧ Below u.heap.size u w') := fun u hu => pick_to s.data.toList s.data.toList hl hl rt0 70 (pkR_none hd hd) (pkE_none hd hd) u hu
  have E1 : Hid (∀ u, Tab u → Calls Tryd.prog 10 #[rtV a] u fun e w' => e = .returned (.tuple #[.string ⟨(slotL a).toArray⟩, .int .i64 0]) ∧ Below u.heap.size u w') := fun u hu => enc_yes ha u hu
  have E2 : Hid (∀ u, Tab u → Calls Tryd.prog 10 #[rtV b] u fun e w' => e = .returned (.tuple #[.string ⟨(slotL b).toArray⟩, .int .i64 0]) ∧ Below u.heap.size u w') := fun u hu => enc_yes hb u hu
  rw [← es] at D1 P3 P4 P5
  generalize (⟨(slotL a).toArray⟩ : ByteArray) = sa at *
  generalize (⟨(slotL b).toArray⟩ : ByteArray) = sb at *
  clear ha hb hd es hl
  have h3 : ¬ a.ep < b.ep := by omega
  have h4 : (a.ep == b.ep) = false := beq_eq_false_iff_ne.2 (by omega)
  unfold maxLen at *
  clear T
  obtain ⟨n0, n1, n2, n3, n4⟩ := a
  obtain ⟨m0, m1, m2, m3, m4⟩ := b
  unfold rtV at *
  (try unfold rt0 at *)
  dsimp only at *
  go_enter Tryd.func8, Tryd.ntmps8
  go_wp2_with fail
  have N4 : Hid (Cl ((w.alloc (.cells #[.int .i64 n0, .int .i64 n1, .int .i64 n2, .int .i64 n3, .int .i64 n4] 23)).alloc (.cells #[.int .i64 m0, .int .i64 m1, .int .i64 m2, .int .i64 m3, .int .i64 m4] 23)) w.heap.size #[.int .i64 n0, .int .i64 n1, .int .i64 n2, .int .i64 n3, .int .i64 n4] 23) := Cl.alloc (Cl.new _ _ _) _
  have N5 : Hid (Cl ((w.alloc (.cells #[.int .i64 n0, .int .i64 n1, .int .i64 n2, .int .i64 n3, .int .i64 n4] 23)).alloc (.cells #[.int .i64 m0, .int .i64 m1, .int .i64 m2, .int .i64 m3, .int .i64 m4] 23)) (w.heap.size + 1) #[.int .i64 m0, .int .i64 m1, .int .i64 m2, .int .i64 m3, .int .i64 m4] 23) := by
    have := Cl.new (w.alloc (.cells #[.int .i64 n0, .int .i64 n1, .int .i64 n2, .int .i64 n3, .int .i64 n4] 23)) #[.int .i64 m0, .int .i64 m1, .int .i64 m2, .int .i64 m3, .int .i64 m4] 23
    rw [show (w.alloc (.cells #[.int .i64 n0, .int .i64 n1, .int .i64 n2, .int .i64 n3, .int .i64 n4] 23)).heap.size = w.heap.size + 1 by simp] at this
    exact this
  have B3 : Hid (Below w.heap.size w ((w.alloc (.cells #[.int .i64 n0, .int .i64 n1, .int .i64 n2, .int .i64 n3, .int .i64 n4] 23)).alloc (.cells #[.int .i64 m0, .int .i64 m1, .int .i64 m2, .int .i64 m3, .int .i64 m4] 23))) := ((Below.refl _ _).alloc (Nat.le_refl _) _).alloc (by simp) _
  have L6 : Hid (w.heap.size ≤ w.heap.size) := Nat.le_refl _
  have L7 : Hid (w.heap.size ≤ w.heap.size + 1) := Nat.le_succ _
  generalize (w.alloc (.cells #[.int .i64 n0, .int .i64 n1, .int .i64 n2, .int .i64 n3, .int .i64 n4] 23)).alloc (.cells #[.int .i64 m0, .int .i64 m1, .int .i64 m2, .int .i64 m3, .int .i64 m4] 23) = v1 at *
  generalize w.heap.size + 1 = q2 at *
  refine Calls.mono (CW.out _ (TAB.out.below B3.out)) ?_
  rintro e v8 ⟨rfl, b9⟩
  have N11 : Hid (Cl v8 w.heap.size #[.int .i64 n0, .int .i64 n1, .int .i64 n2, .int .i64 n3, .int .i64 n4] 23) := Cl.on N4.out b9
  have N12 : Hid (Cl v8 q2 #[.int .i64 m0, .int .i64 m1, .int .i64 m2, .int .i64 m3, .int .i64 m4] 23) := Cl.on N5.out b9
  have B10 : Hid (Below w.heap.size w v8) := B3.out.trans (b9.mono B3.out.size)
  clear b9 N4 N5 B3
  obtain ⟨c13_0, c13_1, c13_2, c13_3, c13_4⟩ := N11.out.five
  go_wp2_with fail
  clear c13_0 c13_1 c13_2 c13_3 c13_4
  refine Calls.mono (E1.out _ (TAB.out.below B10.out)) ?_
  rintro e v14 ⟨rfl, b15⟩
  have N17 : Hid (Cl v14 w.heap.size #[.int .i64 n0, .int .i64 n1, .int .i64 n2, .int .i64 n3, .int .i64 n4] 23) := Cl.on N11.out b15
  have N18 : Hid (Cl v14 q2 #[.int .i64 m0, .int .i64 m1, .int .i64 m2, .int .i64 m3, .int .i64 m4] 23) := Cl.on N12.out b15
  have B16 : Hid (Below w.heap.size w v14) := B10.out.trans (b15.mono B10.out.size)
  clear b15 N11 N12 B10
  obtain ⟨c19_0, c19_1, c19_2, c19_3, c19_4⟩ := N18.out.five
  go_wp2_with fail
  clear c19_0 c19_1 c19_2 c19_3 c19_4
  refine Calls.mono (E2.out _ (TAB.out.below B16.out)) ?_
  rintro e v20 ⟨rfl, b21⟩
  have N23 : Hid (Cl v20 w.heap.size #[.int .i64 n0, .int .i64 n1, .int .i64 n2, .int .i64 n3, .int .i64 n4] 23) := Cl.on N17.out b21
  have N24 : Hid (Cl v20 q2 #[.int .i64 m0, .int .i64 m1, .int .i64 m2, .int .i64 m3, .int .i64 m4] 23) := Cl.on N18.out b21
  have B22 : Hid (Below w.heap.size w v20) := B16.out.trans (b21.mono B16.out.size)
  clear b21 N17 N18 B16
  go_wp2_with fail
  refine Calls.mono (D1.out _ (TAB.out.below B22.out)) ?_
  rintro e v25 ⟨rfl, b26⟩
  have N28 : Hid (Cl v25 w.heap.size #[.int .i64 n0, .int .i64 n1, .int .i64 n2, .int .i64 n3, .int .i64 n4] 23) := Cl.on N23.out b26
  have N29 : Hid (Cl v25 q2 #[.int .i64 m0, .int .i64 m1, .int .i64 m2, .int .i64 m3, .int .i64 m4] 23) := Cl.on N24.out b26
  have B27 : Hid (Below w.heap.size w v25) := B22.out.trans (b26.mono B22.out.size)
  clear b26 N23 N24 B22
  go_upto_region 9 with fail
  have N33 : Hid (Cl (v25.alloc (.cells #[.int .i64 0, .int .i64 0, .int .i64 0, .int .i64 0, .int .i64 0] 23)) v25.heap.size #[.int .i64 0, .int .i64 0, .int .i64 0, .int .i64 0, .int .i64 0] 23) := Cl.new v25 #[.int .i64 0, .int .i64 0, .int .i64 0, .int .i64 0, .int .i64 0] 23
  have B32 : Hid (Below w.heap.size w (v25.alloc (.cells #[.int .i64 0, .int .i64 0, .int .i64 0, .int .i64 0, .int .i64 0] 23))) := B27.out.alloc B27.out.size _
  have L34 : Hid (w.heap.size ≤ v25.heap.size) := B27.out.size
  have N35 : Hid (Cl (v25.alloc (.cells #[.int .i64 0, .int .i64 0, .int .i64 0, .int .i64 0, .int .i64 0] 23)) w.heap.size #[.int .i64 n0, .int .i64 n1, .int .i64 n2, .int .i64 n3, .int .i64 n4] 23) := Cl.alloc N28.out _
  have N36 : Hid (Cl (v25.alloc (.cells #[.int .i64 0, .int .i64 0, .int .i64 0, .int .i64 0, .int .i64 0] 23)) q2 #[.int .i64 m0, .int .i64 m1, .int .i64 m2, .int .i64 m3, .int .i64 m4] 23) := Cl.alloc N29.out _
  clear N28 N29 B27
  generalize v25.alloc (.cells #[.int .i64 0, .int .i64 0, .int .i64 0, .int .i64 0, .int .i64 0] 23) = v30 at *
  generalize v25.heap.size = q31 at *
  go_wp2_with fail
  refine Calls.mono (P1.out _ (TAB.out.below B32.out)) ?_
  rintro e v37 ⟨rfl, b38⟩
  have N40 : Hid (Cl v37 w.heap.size #[.int .i64 n0, .int .i64 n1, .int .i64 n2, .int .i64 n3, .int .i64 n4] 23) := Cl.on N35.out b38
  have N41 : Hid (Cl v37 q2 #[.int .i64 m0, .int .i64 m1, .int .i64 m2, .int .i64 m3, .int .i64 m4] 23) := Cl.on N36.out b38
  have N42 : Hid (Cl v37 q31 #[.int .i64 0, .int .i64 0, .int .i64 0, .int .i64 0, .int .i64 0] 23) := Cl.on N33.out b38
  have B39 : Hid (Below w.heap.size w v37) := B32.out.trans (b38.mono B32.out.size)
  clear b38 N35 N36 N33 B32
  go_wp2_with fail
  have N46 : Hid (Cl (v37.alloc (.cells #[.int .i64 n0, .int .i64 n1, .int .i64 n2, .int .i64 n3, .int .i64 n4] 23)) v37.heap.size #[.int .i64 n0, .int .i64 n1, .int .i64 n2, .int .i64 n3, .int .i64 n4] 23) := Cl.new v37 #[.int .i64 n0, .int .i64 n1, .int .i64 n2, .int .i64 n3, .int .i64 n4] 23
  have B45 : Hid (Below w.heap.size w (v37.alloc (.cells #[.int .i64 n0, .int .i64 n1, .int .i64 n2, .int .i64 n3, .int .i64 n4] 23))) := B39.out.alloc B39.out.size _
  have L47 : Hid (w.heap.size ≤ v37.heap.size) := B39.out.size
  have N48 : Hid (Cl (v37.alloc (.cells #[.int .i64 n0, .int .i64 n1, .int .i64 n2, .int .i64 n3, .int .i64 n4] 23)) w.heap.size #[.int .i64 n0, .int .i64 n1, .int .i64 n2, .int .i64 n3, .int .i64 n4] 23) := Cl.alloc N40.out _
  have N49 : Hid (Cl (v37.alloc (.cells #[.int .i64 n0, .int .i64 n1, .int .i64 n2, .int .i64 n3, .int .i64 n4] 23)) q2 #[.int .i64 m0, .int .i64 m1, .int .i64 m2, .int .i64 m3, .int .i64 m4] 23) := Cl.alloc N41.out _
  have N50 : Hid (Cl (v37.alloc (.cells #[.int .i64 n0, .int .i64 n1, .int .i64 n2, .int .i64 n3, .int .i64 n4] 23)) q31 #[.int .i64 0, .int .i64 0, .int .i64 0, .int .i64 0, .int .i64 0] 23) := Cl.alloc N42.out _
  clear N40 N41 N42 B39
  generalize v37.alloc (.cells #[.int .i64 n0, .int .i64 n1, .int .i64 n2, .int .i64 n3, .int .i64 n4] 23) = v43 at *
  generalize v37.heap.size = q44 at *
  refine Calls.mono (P2.out _ (TAB.out.below B45.out)) ?_
  rintro e v51 ⟨rfl, b52⟩
  have N54 : Hid (Cl v51 w.heap.size #[.int .i64 n0, .int .i64 n1, .int .i64 n2, .int .i64 n3, .int .i64 n4] 23) := Cl.on N48.out b52
  have N55 : Hid (Cl v51 q2 #[.int .i64 m0, .int .i64 m1, .int .i64 m2, .int .i64 m3, .int .i64 m4] 23) := Cl.on N49.out b52
  have N56 : Hid (Cl v51 q31 #[.int .i64 0, .int .i64 0, .int .i64 0, .int .i64 0, .int .i64 0] 23) := Cl.on N50.out b52
  have N57 : Hid (Cl v51 q44 #[.int .i64 n0, .int .i64 n1, .int .i64 n2, .int .i64 n3, .int .i64 n4] 23) := Cl.on N46.out b52
  have B53 : Hid (Below w.heap.size w v51) := B45.out.trans (b52.mono B45.out.size)
  clear b52 N48 N49 N50 N46 B45
  go_wp2_with fail
  have N61 : Hid (Cl (v51.alloc (.cells #[.int .i64 n0, .int .i64 n1, .int .i64 n2, .int .i64 n3, .int .i64 n4] 23)) v51.heap.size #[.int .i64 n0, .int .i64 n1, .int .i64 n2, .int .i64 n3, .int .i64 n4] 23) := Cl.new v51 #[.int .i64 n0, .int .i64 n1, .int .i64 n2, .int .i64 n3, .int .i64 n4] 23
  have B60 : Hid (Below w.heap.size w (v51.alloc (.cells #[.int .i64 n0, .int .i64 n1, .int .i64 n2, .int .i64 n3, .int .i64 n4] 23))) := B53.out.alloc B53.out.size _
  have L62 : Hid (w.heap.size ≤ v51.heap.size) := B53.out.size
  have N63 : Hid (Cl (v51.alloc (.cells #[.int .i64 n0, .int .i64 n1, .int .i64 n2, .int .i64 n3, .int .i64 n4] 23)) w.heap.size #[.int .i64 n0, .int .i64 n1, .int .i64 n2, .int .i64 n3, .int .i64 n4] 23) := Cl.alloc N54.out _
  have N64 : Hid (Cl (v51.alloc (.cells #[.int .i64 n0, .int .i64 n1, .int .i64 n2, .int .i64 n3, .int .i64 n4] 23)) q2 #[.int .i64 m0, .int .i64 m1, .int .i64 m2, .int .i64 m3, .int .i64 m4] 23) := Cl.alloc N55.out _
  have N65 : Hid (Cl (v51.alloc (.cells #[.int .i64 n0, .int .i64 n1, .int .i64 n2, .int .i64 n3, .int .i64 n4] 23)) q31 #[.int .i64 0, .int .i64 0, .int .i64 0, .int .i64 0, .int .i64 0] 23) := Cl.alloc N56.out _
  have N66 : Hid (Cl (v51.alloc (.cells #[.int .i64 n0, .int .i64 n1, .int .i64 n2, .int .i64 n3, .int .i64 n4] 23)) q44 #[.int .i64 n0, .int .i64 n1, .int .i64 n2, .int .i64 n3, .int .i64 n4] 23) := Cl.alloc N57.out _
  clear N54 N55 N56 N57 B53
  generalize v51.alloc (.cells #[.int .i64 n0, .int .i64 n1, .int .i64 n2, .int .i64 n3, .int .i64 n4] 23) = v58 at *
  generalize v51.heap.size = q59 at *
  refine Calls.mono (P3.out _ (TAB.out.below B60.out)) ?_
  rintro e v67 ⟨rfl, b68⟩
  have N70 : Hid (Cl v67 w.heap.size #[.int .i64 n0, .int .i64 n1, .int .i64 n2, .int .i64 n3, .int .i64 n4] 23) := Cl.on N63.out b68
  have N71 : Hid (Cl v67 q2 #[.int .i64 m0, .int .i64 m1, .int .i64 m2, .int .i64 m3, .int .i64 m4] 23) := Cl.on N64.out b68
  have N72 : Hid (Cl v67 q31 #[.int .i64 0, .int .i64 0, .int .i64 0, .int .i64 0, .int .i64 0] 23) := Cl.on N65.out b68
  have N73 : Hid (Cl v67 q44 #[.int .i64 n0, .int .i64 n1, .int .i64 n2, .int .i64 n3, .int .i64 n4] 23) := Cl.on N66.out b68
  have N74 : Hid (Cl v67 q59 #[.int .i64 n0, .int .i64 n1, .int .i64 n2, .int .i64 n3, .int .i64 n4] 23) := Cl.on N61.out b68
  have B69 : Hid (Below w.heap.size w v67) := B60.out.trans (b68.mono B60.out.size)
  clear b68 N63 N64 N65 N66 N61 B60
  go_wp2_with fail
  have N78 : Hid (Cl (v67.alloc (.cells #[.int .i64 n0, .int .i64 n1, .int .i64 n2, .int .i64 n3, .int .i64 n4] 23)) v67.heap.size #[.int .i64 n0, .int .i64 n1, .int .i64 n2, .int .i64 n3, .int .i64 n4] 23) := Cl.new v67 #[.int .i64 n0, .int .i64 n1, .int .i64 n2, .int .i64 n3, .int .i64 n4] 23
  have B77 : Hid (Below w.heap.size w (v67.alloc (.cells #[.int .i64 n0, .int .i64 n1, .int .i64 n2, .int .i64 n3, .int .i64 n4] 23))) := B69.out.alloc B69.out.size _
  have L79 : Hid (w.heap.size ≤ v67.heap.size) := B69.out.size
  have N80 : Hid (Cl (v67.alloc (.cells #[.int .i64 n0, .int .i64 n1, .int .i64 n2, .int .i64 n3, .int .i64 n4] 23)) w.heap.size #[.int .i64 n0, .int .i64 n1, .int .i64 n2, .int .i64 n3, .int .i64 n4] 23) := Cl.alloc N70.out _
  have N81 : Hid (Cl (v67.alloc (.cells #[.int .i64 n0, .int .i64 n1, .int .i64 n2, .int .i64 n3, .int .i64 n4] 23)) q2 #[.int .i64 m0, .int .i64 m1, .int .i64 m2, .int .i64 m3, .int .i64 m4] 23) := Cl.alloc N71.out _
  have N82 : Hid (Cl (v67.alloc (.cells #[.int .i64 n0, .int .i64 n1, .int .i64 n2, .int .i64 n3, .int .i64 n4] 23)) q31 #[.int .i64 0, .int .i64 0, .int .i64 0, .int .i64 0, .int .i64 0] 23) := Cl.alloc N72.out _
  have N83 : Hid (Cl (v67.alloc (.cells #[.int .i64 n0, .int .i64 n1, .int .i64 n2, .int .i64 n3, .int .i64 n4] 23)) q44 #[.int .i64 n0, .int .i64 n1, .int .i64 n2, .int .i64 n3, .int .i64 n4] 23) := Cl.alloc N73.out _
  have N84 : Hid (Cl (v67.alloc (.cells #[.int .i64 n0, .int .i64 n1, .int .i64 n2, .int .i64 n3, .int .i64 n4] 23)) q59 #[.int .i64 n0, .int .i64 n1, .int .i64 n2, .int .i64 n3, .int .i64 n4] 23) := Cl.alloc N74.out _
  clear N70 N71 N72 N73 N74 B69
  generalize v67.alloc (.cells #[.int .i64 n0, .int .i64 n1, .int .i64 n2, .int .i64 n3, .int .i64 n4] 23) = v75 at *
  generalize v67.heap.size = q76 at *
  refine Calls.mono (P4.out _ (TAB.out.below B77.out)) ?_
  rintro e v85 ⟨rfl, b86⟩
  have N88 : Hid (Cl v85 w.heap.size #[.int .i64 n0, .int .i64 n1, .int .i64 n2, .int .i64 n3, .int .i64 n4] 23) := Cl.on N80.out b86
  have N89 : Hid (Cl v85 q2 #[.int .i64 m0, .int .i64 m1, .int .i64 m2, .int .i64 m3, .int .i64 m4] 23) := Cl.on N81.out b86
  have N90 : Hid (Cl v85 q31 #[.int .i64 0, .int .i64 0, .int .i64 0, .int .i64 0, .int .i64 0] 23) := Cl.on N82.out b86
  have N91 : Hid (Cl v85 q44 #[.int .i64 n0, .int .i64 n1, .int .i64 n2, .int .i64 n3, .int .i64 n4] 23) := Cl.on N83.out b86
  have N92 : Hid (Cl v85 q59 #[.int .i64 n0, .int .i64 n1, .int .i64 n2, .int .i64 n3, .int .i64 n4] 23) := Cl.on N84.out b86
  have N93 : Hid (Cl v85 q76 #[.int .i64 n0, .int .i64 n1, .int .i64 n2, .int .i64 n3, .int .i64 n4] 23) := Cl.on N78.out b86
  have B87 : Hid (Below w.heap.size w v85) := B77.out.trans (b86.mono B77.out.size)
  clear b86 N80 N81 N82 N83 N84 N78 B77
  go_wp2_with fail
  have N97 : Hid (Cl (v85.alloc (.cells #[.int .i64 n0, .int .i64 n1, .int .i64 n2, .int .i64 n3, .int .i64 n4] 23)) v85.heap.size #[.int .i64 n0, .int .i64 n1, .int .i64 n2, .int .i64 n3, .int .i64 n4] 23) := Cl.new v85 #[.int .i64 n0, .int .i64 n1, .int .i64 n2, .int .i64 n3, .int .i64 n4] 23
  have B96 : Hid (Below w.heap.size w (v85.alloc (.cells #[.int .i64 n0, .int .i64 n1, .int .i64 n2, .int .i64 n3, .int .i64 n4] 23))) := B87.out.alloc B87.out.size _
  have L98 : Hid (w.heap.size ≤ v85.heap.size) := B87.out.size
  have N99 : Hid (Cl (v85.alloc (.cells #[.int .i64 n0, .int .i64 n1, .int .i64 n2, .int .i64 n3, .int .i64 n4] 23)) w.heap.size #[.int .i64 n0, .int .i64 n1, .int .i64 n2, .int .i64 n3, .int .i64 n4] 23) := Cl.alloc N88.out _
  have N100 : Hid (Cl (v85.alloc (.cells #[.int .i64 n0, .int .i64 n1, .int .i64 n2, .int .i64 n3, .int .i64 n4] 23)) q2 #[.int .i64 m0, .int .i64 m1, .int .i64 m2, .int .i64 m3, .int .i64 m4] 23) := Cl.alloc N89.out _
  have N101 : Hid (Cl (v85.alloc (.cells #[.int .i64 n0, .int .i64 n1, .int .i64 n2, .int .i64 n3, .int .i64 n4] 23)) q31 #[.int .i64 0, .int .i64 0, .int .i64 0, .int .i64 0, .int .i64 0] 23) := Cl.alloc N90.out _
  have N102 : Hid (Cl (v85.alloc (.cells #[.int .i64 n0, .int .i64 n1, .int .i64 n2, .int .i64 n3, .int .i64 n4] 23)) q44 #[.int .i64 n0, .int .i64 n1, .int .i64 n2, .int .i64 n3, .int .i64 n4] 23) := Cl.alloc N91.out _
  have N103 : Hid (Cl (v85.alloc (.cells #[.int .i64 n0, .int .i64 n1, .int .i64 n2, .int .i64 n3, .int .i64 n4] 23)) q59 #[.int .i64 n0, .int .i64 n1, .int .i64 n2, .int .i64 n3, .int .i64 n4] 23) := Cl.alloc N92.out _
  have N104 : Hid (Cl (v85.alloc (.cells #[.int .i64 n0, .int .i64 n1, .int .i64 n2, .int .i64 n3, .int .i64 n4] 23)) q76 #[.int .i64 n0, .int .i64 n1, .int .i64 n2, .int .i64 n3, .int .i64 n4] 23) := Cl.alloc N93.out _
  clear N88 N89 N90 N91 N92 N93 B87
  generalize v85.alloc (.cells #[.int .i64 n0, .int .i64 n1, .int .i64 n2, .int .i64 n3, .int .i64 n4] 23) = v94 at *
  generalize v85.heap.size = q95 at *
  refine Calls.mono (P5.out _ (TAB.out.below B96.out)) ?_
  rintro e v105 ⟨rfl, b106⟩
  have N108 : Hid (Cl v105 w.heap.size #[.int .i64 n0, .int .i64 n1, .int .i64 n2, .int .i64 n3, .int .i64 n4] 23) := Cl.on N99.out b106
  have N109 : Hid (Cl v105 q2 #[.int .i64 m0, .int .i64 m1, .int .i64 m2, .int .i64 m3, .int .i64 m4] 23) := Cl.on N100.out b106
  have N110 : Hid (Cl v105 q31 #[.int .i64 0, .int .i64 0, .int .i64 0, .int .i64 0, .int .i64 0] 23) := Cl.on N101.out b106
  have N111 : Hid (Cl v105 q44 #[.int .i64 n0, .int .i64 n1, .int .i64 n2, .int .i64 n3, .int .i64 n4] 23) := Cl.on N102.out b106
  have N112 : Hid (Cl v105 q59 #[.int .i64 n0, .int .i64 n1, .int .i64 n2, .int .i64 n3, .int .i64 n4] 23) := Cl.on N103.out b106
  have N113 : Hid (Cl v105 q76 #[.int .i64 n0, .int .i64 n1, .int .i64 n2, .int .i64 n3, .int .i64 n4] 23) := Cl.on N104.out b106
  have N114 : Hid (Cl v105 q95 #[.int .i64 n0, .int .i64 n1, .int .i64 n2, .int .i64 n3, .int .i64 n4] 23) := Cl.on N97.out b106
  have B107 : Hid (Below w.heap.size w v105) := B96.out.trans (b106.mono B96.out.size)
  clear b106 N99 N100 N101 N102 N103 N104 N97 B96
  go_upto_region 16 with fail
  have N118 : Hid (Cl (v105.alloc (.cells #[.int .i64 0, .int .i64 0, .int .i64 0, .int .i64 0, .int .i64 0] 23)) v105.heap.size #[.int .i64 0, .int .i64 0, .int .i64 0, .int .i64 0, .int .i64 0] 23) := Cl.new v105 #[.int .i64 0, .int .i64 0, .int .i64 0, .int .i64 0, .int .i64 0] 23
  have B117 : Hid (Below w.heap.size w (v105.alloc (.cells #[.int .i64 0, .int .i64 0, .int .i64 0, .int .i64 0, .int .i64 0] 23))) := B107.out.alloc B107.out.size _
  have L119 : Hid (w.heap.size ≤ v105.heap.size) := B107.out.size
  have N120 : Hid (Cl (v105.alloc (.cells #[.int .i64 0, .int .i64 0, .int .i64 0, .int .i64 0, .int .i64 0] 23)) w.heap.size #[.int .i64 n0, .int .i64 n1, .int .i64 n2, .int .i64 n3, .int .i64 n4] 23) := Cl.alloc N108.out _
  have N121 : Hid (Cl (v105.alloc (.cells #[.int .i64 0, .int .i64 0, .int .i64 0, .int .i64 0, .int .i64 0] 23)) q2 #[.int .i64 m0, .int .i64 m1, .int .i64 m2, .int .i64 m3, .int .i64 m4] 23) := Cl.alloc N109.out _
  have N122 : Hid (Cl (v105.alloc (.cells #[.int .i64 0, .int .i64 0, .int .i64 0, .int .i64 0, .int .i64 0] 23)) q31 #[.int .i64 0, .int .i64 0, .int .i64 0, .int .i64 0, .int .i64 0] 23) := Cl.alloc N110.out _
  have N123 : Hid (Cl (v105.alloc (.cells #[.int .i64 0, .int .i64 0, .int .i64 0, .int .i64 0, .int .i64 0] 23)) q44 #[.int .i64 n0, .int .i64 n1, .int .i64 n2, .int .i64 n3, .int .i64 n4] 23) := Cl.alloc N111.out _
  have N124 : Hid (Cl (v105.alloc (.cells #[.int .i64 0, .int .i64 0, .int .i64 0, .int .i64 0, .int .i64 0] 23)) q59 #[.int .i64 n0, .int .i64 n1, .int .i64 n2, .int .i64 n3, .int .i64 n4] 23) := Cl.alloc N112.out _
  have N125 : Hid (Cl (v105.alloc (.cells #[.int .i64 0, .int .i64 0, .int .i64 0, .int .i64 0, .int .i64 0] 23)) q76 #[.int .i64 n0, .int .i64 n1, .int .i64 n2, .int .i64 n3, .int .i64 n4] 23) := Cl.alloc N113.out _
  have N126 : Hid (Cl (v105.alloc (.cells #[.int .i64 0, .int .i64 0, .int .i64 0, .int .i64 0, .int .i64 0] 23)) q95 #[.int .i64 n0, .int .i64 n1, .int .i64 n2, .int .i64 n3, .int .i64 n4] 23) := Cl.alloc N114.out _
  clear N108 N109 N110 N111 N112 N113 N114 B107
  generalize v105.alloc (.cells #[.int .i64 0, .int .i64 0, .int .i64 0, .int .i64 0, .int .i64 0] 23) = v115 at *
  generalize v105.heap.size = q116 at *
  obtain ⟨c127_0, c127_1, c127_2, c127_3, c127_4⟩ := N120.out.five
  go_upto_region 17 with fail
  clear c127_0 c127_1 c127_2 c127_3 c127_4
  have N131 : Hid (Cl (v115.alloc (.cells #[.int .i64 n0, .int .i64 n1, .int .i64 n2, .int .i64 n3, .int .i64 n4] 23)) v115.heap.size #[.int .i64 n0, .int .i64 n1, .int .i64 n2, .int .i64 n3, .int .i64 n4] 23) := Cl.new v115 #[.int .i64 n0, .int .i64 n1, .int .i64 n2, .int .i64 n3, .int .i64 n4] 23
  have B130 : Hid (Below w.heap.size w (v115.alloc (.cells #[.int .i64 n0, .int .i64 n1, .int .i64 n2, .int .i64 n3, .int .i64 n4] 23))) := B117.out.alloc B117.out.size _
  have L132 : Hid (w.heap.size ≤ v115.heap.size) := B117.out.size
  have N133 : Hid (Cl (v115.alloc (.cells #[.int .i64 n0, .int .i64 n1, .int .i64 n2, .int .i64 n3, .int .i64 n4] 23)) w.heap.size #[.int .i64 n0, .int .i64 n1, .int .i64 n2, .int .i64 n3, .int .i64 n4] 23) := Cl.alloc N120.out _
  have N134 : Hid (Cl (v115.alloc (.cells #[.int .i64 n0, .int .i64 n1, .int .i64 n2, .int .i64 n3, .int .i64 n4] 23)) q2 #[.int .i64 m0, .int .i64 m1, .int .i64 m2, .int .i64 m3, .int .i64 m4] 23) := Cl.alloc N121.out _
  have N135 : Hid (Cl (v115.alloc (.cells #[.int .i64 n0, .int .i64 n1, .int .i64 n2, .int .i64 n3, .int .i64 n4] 23)) q31 #[.int .i64 0, .int .i64 0, .int .i64 0, .int .i64 0, .int .i64 0] 23) := Cl.alloc N122.out _
  have N136 : Hid (Cl (v115.alloc (.cells #[.int .i64 n0, .int .i64 n1, .int .i64 n2, .int .i64 n3, .int .i64 n4] 23)) q44 #[.int .i64 n0, .int .i64 n1, .int .i64 n2, .int .i64 n3, .int .i64 n4] 23) := Cl.alloc N123.out _
  have N137 : Hid (Cl (v115.alloc (.cells #[.int .i64 n0, .int .i64 n1, .int .i64 n2, .int .i64 n3, .int .i64 n4] 23)) q59 #[.int .i64 n0, .int .i64 n1, .int .i64 n2, .int .i64 n3, .int .i64 n4] 23) := Cl.alloc N124.out _
  have N138 : Hid (Cl (v115.alloc (.cells #[.int .i64 n0, .int .i64 n1, .int .i64 n2, .int .i64 n3, .int .i64 n4] 23)) q76 #[.int .i64 n0, .int .i64 n1, .int .i64 n2, .int .i64 n3, .int .i64 n4] 23) := Cl.alloc N125.out _
  have N139 : Hid (Cl (v115.alloc (.cells #[.int .i64 n0, .int .i64 n1, .int .i64 n2, .int .i64 n3, .int .i64 n4] 23)) q95 #[.int .i64 n0, .int .i64 n1, .int .i64 n2, .int .i64 n3, .int .i64 n4] 23) := Cl.alloc N126.out _
  have N140 : Hid (Cl (v115.alloc (.cells #[.int .i64 n0, .int .i64 n1, .int .i64 n2, .int .i64 n3, .int .i64 n4] 23)) q116 #[.int .i64 0, .int .i64 0, .int .i64 0, .int .i64 0, .int .i64 0] 23) := Cl.alloc N118.out _
  clear N120 N121 N122 N123 N124 N125 N126 N118 B117
  generalize v115.alloc (.cells #[.int .i64 n0, .int .i64 n1, .int .i64 n2, .int .i64 n3, .int .i64 n4] 23) = v128 at *
  generalize v115.heap.size = q129 at *
  obtain ⟨c141_0, c141_1, c141_2, c141_3, c141_4⟩ := N133.out.five
  obtain ⟨c142_0, c142_1, c142_2, c142_3, c142_4⟩ := N134.out.five
  obtain ⟨c143_0, c143_1, c143_2, c143_3, c143_4⟩ := N136.out.five
  obtain ⟨c144_0, c144_1, c144_2, c144_3, c144_4⟩ := N137.out.five
  obtain ⟨c145_0, c145_1, c145_2, c145_3, c145_4⟩ := N138.out.five
  obtain ⟨c146_0, c146_1, c146_2, c146_3, c146_4⟩ := N139.out.five
  obtain ⟨c147_0, c147_1, c147_2, c147_3, c147_4⟩ := N131.out.five
  go_wp2
  go_ret
  exact ⟨rfl, B130.out⟩

set_option maxRecDepth 100000 in
set_option maxHeartbeats 2000000 in
theorem newer_eq (a b : Rt) (s : ByteArray) (w : World) (T : Tab w) (hm : s.size ≤ maxLen) (h1 : ¬ 1000 < s.size) (ha : a.ok = true) (hb : b.ok = true) (hd : decB s.data.toList = false) (h2 : a.ep = b.ep) : Calls Tryd.prog 8 #[rtV a, rtV b, .string s] w fun e w' => e = .returned (.bool true) ∧ Below w.heap.size w w' := by
  have CW : Hid (∀ u, Tab u → Calls Tryd.prog 9 #[] u fun e w' => e = .returned (.bool true) ∧ Below u.heap.size u w') := works_any
  have TAB : Hid (Tab w) := T
  have es : s = ⟨s.data.toList.toArray⟩ := rfl
  have hl : s.data.toList.length ≤ maxLen := by rw [len_of]; exact hm
  have D1 : Hid (∀ u, Tab u → Calls Tryd.prog 12 #[.string ⟨s.data.toList.toArray⟩] u fun e w' => e = .returned (.tuple #[rtV rt0, .bool false]) ∧ Below u.heap.size u w') := fun u hu => dec_to s.data.toList hl rt0 false (decR_no hd) hd u hu
  have P1 : Hid (∀ u, Tab u → Calls Tryd.prog 14 #[.string ⟨(slotL a).toArray⟩, .string ⟨(slotL b).toArray⟩] u fun e w' => e = .returned (.tuple #[rtV a, .int .i64 0]) ∧ Below u.heap.size u w') := fun u hu => pick_to (slotL a) (slotL b) (slot_small a) (slot_small b) a 0 (pk_le ha hb (by omega)) (pkE_left (decB_slot ha)) u hu
  have P2 : Hid (∀ u, Tab u → Calls Tryd.prog 14 #[.string ⟨(slotL b).toArray⟩, .string ⟨(slotL a).toArray⟩] u fun e w' => e = .returned (.tuple #[rtV b, .int .i64 0]) ∧ Below u.heap.size u w') := fun u hu => pick_to (slotL b) (slotL a) (slot_small b) (slot_small a) b 0 (pk_le hb ha (by omega)) (pkE_left (decB_slot hb)) u hu
  have P3 : Hid (∀ u, Tab u → Calls Tryd.prog 14 #[.string ⟨(slotL a).toArray⟩, .string ⟨s.data.toList.toArray⟩] u fun e w' => e = .returned (.tuple #[rtV a, .int .i64 0]) ∧ Below u.heap.size u w') := fun u hu => pick_to (slotL a) s.data.toList (slot_small a) hl a 0 ((pkR_first (decB_slot ha) hd).trans (decR_slot ha)) (pkE_left (decB_slot ha)) u hu
  have P4 : Hid (∀ u, Tab u → Calls Tryd.prog 14 #[.string ⟨s.data.toList.toArray⟩, .string ⟨(slotL a).toArray⟩] u fun e w' => e = .returned (.tuple #[rtV a, .int .i64 0]) ∧ Below u.heap.size u w') := fun u hu => pick_to s.data.toList (slotL a) hl (slot_small a) a 0 ((pkR_second hd (decB_slot ha)).trans (decR_slot ha)) (pkE_right (decB_slot ha)) u hu
  have P5 : Hid (∀ u, Tab u → Calls Tryd.prog 14 #[.string ⟨s.data.toList.toArray⟩, .string ⟨s.data.toList.toArray⟩] u fun e w' => e = .returned (.tuple #[rtV rt0, .int .i64 70]) ∧ Below u.heap.size u w') := fun u hu => pick_to s.data.toList s.data.toList hl hl rt0 70 (pkR_none hd hd) (pkE_none hd hd) u hu
  have E1 : Hid (∀ u, Tab u → Calls Tryd.prog 10 #[rtV a] u fun e w' => e = .returned (.tuple #[.string ⟨(slotL a).toArray⟩, .int .i64 0]) ∧ Below u.heap.size u w') := fun u hu => enc_yes ha u hu
  have E2 : Hid (∀ u, Tab u → Calls Tryd.prog 10 #[rtV b] u fun e w' => e = .returned (.tuple #[.string ⟨(slotL b).toArray⟩, .int .i64 0]) ∧ Below u.heap.size u w') := fun u hu => enc_yes hb u hu
  rw [← es] at D1 P3 P4 P5
  generalize (⟨(slotL a).toArray⟩ : ByteArray) = sa at *
  generalize (⟨(slotL b).toArray⟩ : ByteArray) = sb at *
  clear ha hb hd es hl
  have h3 : ¬ a.ep < b.ep := by omega
  have h4 : (a.ep == b.ep) = true := by rw [h2]; exact beq_self_eq_true _
  clear h2
  unfold maxLen at *
  clear T
  obtain ⟨n0, n1, n2, n3, n4⟩ := a
  obtain ⟨m0, m1, m2, m3, m4⟩ := b
  unfold rtV at *
  (try unfold rt0 at *)
  dsimp only at *
  go_enter Tryd.func8, Tryd.ntmps8
  go_wp2_with fail
  have N4 : Hid (Cl ((w.alloc (.cells #[.int .i64 n0, .int .i64 n1, .int .i64 n2, .int .i64 n3, .int .i64 n4] 23)).alloc (.cells #[.int .i64 m0, .int .i64 m1, .int .i64 m2, .int .i64 m3, .int .i64 m4] 23)) w.heap.size #[.int .i64 n0, .int .i64 n1, .int .i64 n2, .int .i64 n3, .int .i64 n4] 23) := Cl.alloc (Cl.new _ _ _) _
  have N5 : Hid (Cl ((w.alloc (.cells #[.int .i64 n0, .int .i64 n1, .int .i64 n2, .int .i64 n3, .int .i64 n4] 23)).alloc (.cells #[.int .i64 m0, .int .i64 m1, .int .i64 m2, .int .i64 m3, .int .i64 m4] 23)) (w.heap.size + 1) #[.int .i64 m0, .int .i64 m1, .int .i64 m2, .int .i64 m3, .int .i64 m4] 23) := by
    have := Cl.new (w.alloc (.cells #[.int .i64 n0, .int .i64 n1, .int .i64 n2, .int .i64 n3, .int .i64 n4] 23)) #[.int .i64 m0, .int .i64 m1, .int .i64 m2, .int .i64 m3, .int .i64 m4] 23
    rw [show (w.alloc (.cells #[.int .i64 n0, .int .i64 n1, .int .i64 n2, .int .i64 n3, .int .i64 n4] 23)).heap.size = w.heap.size + 1 by simp] at this
    exact this
  have B3 : Hid (Below w.heap.size w ((w.alloc (.cells #[.int .i64 n0, .int .i64 n1, .int .i64 n2, .int .i64 n3, .int .i64 n4] 23)).alloc (.cells #[.int .i64 m0, .int .i64 m1, .int .i64 m2, .int .i64 m3, .int .i64 m4] 23))) := ((Below.refl _ _).alloc (Nat.le_refl _) _).alloc (by simp) _
  have L6 : Hid (w.heap.size ≤ w.heap.size) := Nat.le_refl _
  have L7 : Hid (w.heap.size ≤ w.heap.size + 1) := Nat.le_succ _
  generalize (w.alloc (.cells #[.int .i64 n0, .int .i64 n1, .int .i64 n2, .int .i64 n3, .int .i64 n4] 23)).alloc (.cells #[.int .i64 m0, .int .i64 m1, .int .i64 m2, .int .i64 m3, .int .i64 m4] 23) = v1 at *
  generalize w.heap.size + 1 = q2 at *
  refine Calls.mono (CW.out _ (TAB.out.below B3.out)) ?_
  rintro e v8 ⟨rfl, b9⟩
  have N11 : Hid (Cl v8 w.heap.size #[.int .i64 n0, .int .i64 n1, .int .i64 n2, .int .i64 n3, .int .i64 n4] 23) := Cl.on N4.out b9
  have N12 : Hid (Cl v8 q2 #[.int .i64 m0, .int .i64 m1, .int .i64 m2, .int .i64 m3, .int .i64 m4] 23) := Cl.on N5.out b9
  have B10 : Hid (Below w.heap.size w v8) := B3.out.trans (b9.mono B3.out.size)
  clear b9 N4 N5 B3
  obtain ⟨c13_0, c13_1, c13_2, c13_3, c13_4⟩ := N11.out.five
  go_wp2_with fail
  clear c13_0 c13_1 c13_2 c13_3 c13_4
  refine Calls.mono (E1.out _ (TAB.out.below B10.out)) ?_
  rintro e v14 ⟨rfl, b15⟩
  have N17 : Hid (Cl v14 w.heap.size #[.int .i64 n0, .int .i64 n1, .int .i64 n2, .int .i64 n3, .int .i64 n4] 23) := Cl.on N11.out b15
  have N18 : Hid (Cl v14 q2 #[.int .i64 m0, .int .i64 m1, .int .i64 m2, .int .i64 m3, .int .i64 m4] 23) := Cl.on N12.out b15
  have B16 : Hid (Below w.heap.size w v14) := B10.out.trans (b15.mono B10.out.size)
  clear b15 N11 N12 B10
  obtain ⟨c19_0, c19_1, c19_2, c19_3, c19_4⟩ := N18.out.five
  go_wp2_with fail
  clear c19_0 c19_1 c19_2 c19_3 c19_4
  refine Calls.mono (E2.out _ (TAB.out.below B16.out)) ?_
  rintro e v20 ⟨rfl, b21⟩
  have N23 : Hid (Cl v20 w.heap.size #[.int .i64 n0, .int .i64 n1, .int .i64 n2, .int .i64 n3, .int .i64 n4] 23) := Cl.on N17.out b21
  have N24 : Hid (Cl v20 q2 #[.int .i64 m0, .int .i64 m1, .int .i64 m2, .int .i64 m3, .int .i64 m4] 23) := Cl.on N18.out b21
  have B22 : Hid (Below w.heap.size w v20) := B16.out.trans (b21.mono B16.out.size)
  clear b21 N17 N18 B16
  go_wp2_with fail
  refine Calls.mono (D1.out _ (TAB.out.below B22.out)) ?_
  rintro e v25 ⟨rfl, b26⟩
  have N28 : Hid (Cl v25 w.heap.size #[.int .i64 n0, .int .i64 n1, .int .i64 n2, .int .i64 n3, .int .i64 n4] 23) := Cl.on N23.out b26
  have N29 : Hid (Cl v25 q2 #[.int .i64 m0, .int .i64 m1, .int .i64 m2, .int .i64 m3, .int .i64 m4] 23) := Cl.on N24.out b26
  have B27 : Hid (Below w.heap.size w v25) := B22.out.trans (b26.mono B22.out.size)
  clear b26 N23 N24 B22
  go_upto_region 9 with fail
  have N33 : Hid (Cl (v25.alloc (.cells #[.int .i64 0, .int .i64 0, .int .i64 0, .int .i64 0, .int .i64 0] 23)) v25.heap.size #[.int .i64 0, .int .i64 0, .int .i64 0, .int .i64 0, .int .i64 0] 23) := Cl.new v25 #[.int .i64 0, .int .i64 0, .int .i64 0, .int .i64 0, .int .i64 0] 23
  have B32 : Hid (Below w.heap.size w (v25.alloc (.cells #[.int .i64 0, .int .i64 0, .int .i64 0, .int .i64 0, .int .i64 0] 23))) := B27.out.alloc B27.out.size _
  have L34 : Hid (w.heap.size ≤ v25.heap.size) := B27.out.size
  have N35 : Hid (Cl (v25.alloc (.cells #[.int .i64 0, .int .i64 0, .int .i64 0, .int .i64 0, .int .i64 0] 23)) w.heap.size #[.int .i64 n0, .int .i64 n1, .int .i64 n2, .int .i64 n3, .int .i64 n4] 23) := Cl.alloc N28.out _
  have N36 : Hid (Cl (v25.alloc (.cells #[.int .i64 0, .int .i64 0, .int .i64 0, .int .i64 0, .int .i64 0] 23)) q2 #[.int .i64 m0, .int .i64 m1, .int .i64 m2, .int .i64 m3, .int .i64 m4] 23) := Cl.alloc N29.out _
  clear N28 N29 B27
  generalize v25.alloc (.cells #[.int .i64 0, .int .i64 0, .int .i64 0, .int .i64 0, .int .i64 0] 23) = v30 at *
  generalize v25.heap.size = q31 at *
  go_wp2_with fail
  refine Calls.mono (P1.out _ (TAB.out.below B32.out)) ?_
  rintro e v37 ⟨rfl, b38⟩
  have N40 : Hid (Cl v37 w.heap.size #[.int .i64 n0, .int .i64 n1, .int .i64 n2, .int .i64 n3, .int .i64 n4] 23) := Cl.on N35.out b38
  have N41 : Hid (Cl v37 q2 #[.int .i64 m0, .int .i64 m1, .int .i64 m2, .int .i64 m3, .int .i64 m4] 23) := Cl.on N36.out b38
  have N42 : Hid (Cl v37 q31 #[.int .i64 0, .int .i64 0, .int .i64 0, .int .i64 0, .int .i64 0] 23) := Cl.on N33.out b38
  have B39 : Hid (Below w.heap.size w v37) := B32.out.trans (b38.mono B32.out.size)
  clear b38 N35 N36 N33 B32
  go_wp2_with fail
  have N46 : Hid (Cl (v37.alloc (.cells #[.int .i64 n0, .int .i64 n1, .int .i64 n2, .int .i64 n3, .int .i64 n4] 23)) v37.heap.size #[.int .i64 n0, .int .i64 n1, .int .i64 n2, .int .i64 n3, .int .i64 n4] 23) := Cl.new v37 #[.int .i64 n0, .int .i64 n1, .int .i64 n2, .int .i64 n3, .int .i64 n4] 23
  have B45 : Hid (Below w.heap.size w (v37.alloc (.cells #[.int .i64 n0, .int .i64 n1, .int .i64 n2, .int .i64 n3, .int .i64 n4] 23))) := B39.out.alloc B39.out.size _
  have L47 : Hid (w.heap.size ≤ v37.heap.size) := B39.out.size
  have N48 : Hid (Cl (v37.alloc (.cells #[.int .i64 n0, .int .i64 n1, .int .i64 n2, .int .i64 n3, .int .i64 n4] 23)) w.heap.size #[.int .i64 n0, .int .i64 n1, .int .i64 n2, .int .i64 n3, .int .i64 n4] 23) := Cl.alloc N40.out _
  have N49 : Hid (Cl (v37.alloc (.cells #[.int .i64 n0, .int .i64 n1, .int .i64 n2, .int .i64 n3, .int .i64 n4] 23)) q2 #[.int .i64 m0, .int .i64 m1, .int .i64 m2, .int .i64 m3, .int .i64 m4] 23) := Cl.alloc N41.out _
  have N50 : Hid (Cl (v37.alloc (.cells #[.int .i64 n0, .int .i64 n1, .int .i64 n2, .int .i64 n3, .int .i64 n4] 23)) q31 #[.int .i64 0, .int .i64 0, .int .i64 0, .int .i64 0, .int .i64 0] 23) := Cl.alloc N42.out _
  clear N40 N41 N42 B39
  generalize v37.alloc (.cells #[.int .i64 n0, .int .i64 n1, .int .i64 n2, .int .i64 n3, .int .i64 n4] 23) = v43 at *
  generalize v37.heap.size = q44 at *
  refine Calls.mono (P2.out _ (TAB.out.below B45.out)) ?_
  rintro e v51 ⟨rfl, b52⟩
  have N54 : Hid (Cl v51 w.heap.size #[.int .i64 n0, .int .i64 n1, .int .i64 n2, .int .i64 n3, .int .i64 n4] 23) := Cl.on N48.out b52
  have N55 : Hid (Cl v51 q2 #[.int .i64 m0, .int .i64 m1, .int .i64 m2, .int .i64 m3, .int .i64 m4] 23) := Cl.on N49.out b52
  have N56 : Hid (Cl v51 q31 #[.int .i64 0, .int .i64 0, .int .i64 0, .int .i64 0, .int .i64 0] 23) := Cl.on N50.out b52
  have N57 : Hid (Cl v51 q44 #[.int .i64 n0, .int .i64 n1, .int .i64 n2, .int .i64 n3, .int .i64 n4] 23) := Cl.on N46.out b52
  have B53 : Hid (Below w.heap.size w v51) := B45.out.trans (b52.mono B45.out.size)
  clear b52 N48 N49 N50 N46 B45
  go_wp2_with fail
  have N61 : Hid (Cl (v51.alloc (.cells #[.int .i64 m0, .int .i64 m1, .int .i64 m2, .int .i64 m3, .int .i64 m4] 23)) v51.heap.size #[.int .i64 m0, .int .i64 m1, .int .i64 m2, .int .i64 m3, .int .i64 m4] 23) := Cl.new v51 #[.int .i64 m0, .int .i64 m1, .int .i64 m2, .int .i64 m3, .int .i64 m4] 23
  have B60 : Hid (Below w.heap.size w (v51.alloc (.cells #[.int .i64 m0, .int .i64 m1, .int .i64 m2, .int .i64 m3, .int .i64 m4] 23))) := B53.out.alloc B53.out.size _
  have L62 : Hid (w.heap.size ≤ v51.heap.size) := B53.out.size
  have N63 : Hid (Cl (v51.alloc (.cells #[.int .i64 m0, .int .i64 m1, .int .i64 m2, .int .i64 m3, .int .i64 m4] 23)) w.heap.size #[.int .i64 n0, .int .i64 n1, .int .i64 n2, .int .i64 n3, .int .i64 n4] 23) := Cl.alloc N54.out _
  have N64 : Hid (Cl (v51.alloc (.cells #[.int .i64 m0, .int .i64 m1, .int .i64 m2, .int .i64 m3, .int .i64 m4] 23)) q2 #[.int .i64 m0, .int .i64 m1, .int .i64 m2, .int .i64 m3, .int .i64 m4] 23) := Cl.alloc N55.out _
  have N65 : Hid (Cl (v51.alloc (.cells #[.int .i64 m0, .int .i64 m1, .int .i64 m2, .int .i64 m3, .int .i64 m4] 23)) q31 #[.int .i64 0, .int .i64 0, .int .i64 0, .int .i64 0, .int .i64 0] 23) := Cl.alloc N56.out _
  have N66 : Hid (Cl (v51.alloc (.cells #[.int .i64 m0, .int .i64 m1, .int .i64 m2, .int .i64 m3, .int .i64 m4] 23)) q44 #[.int .i64 n0, .int .i64 n1, .int .i64 n2, .int .i64 n3, .int .i64 n4] 23) := Cl.alloc N57.out _
  clear N54 N55 N56 N57 B53
  generalize v51.alloc (.cells #[.int .i64 m0, .int .i64 m1, .int .i64 m2, .int .i64 m3, .int .i64 m4] 23) = v58 at *
  generalize v51.heap.size = q59 at *
  refine Calls.mono (P3.out _ (TAB.out.below B60.out)) ?_
  rintro e v67 ⟨rfl, b68⟩
  have N70 : Hid (Cl v67 w.heap.size #[.int .i64 n0, .int .i64 n1, .int .i64 n2, .int .i64 n3, .int .i64 n4] 23) := Cl.on N63.out b68
  have N71 : Hid (Cl v67 q2 #[.int .i64 m0, .int .i64 m1, .int .i64 m2, .int .i64 m3, .int .i64 m4] 23) := Cl.on N64.out b68
  have N72 : Hid (Cl v67 q31 #[.int .i64 0, .int .i64 0, .int .i64 0, .int .i64 0, .int .i64 0] 23) := Cl.on N65.out b68
  have N73 : Hid (Cl v67 q44 #[.int .i64 n0, .int .i64 n1, .int .i64 n2, .int .i64 n3, .int .i64 n4] 23) := Cl.on N66.out b68
  have N74 : Hid (Cl v67 q59 #[.int .i64 m0, .int .i64 m1, .int .i64 m2, .int .i64 m3, .int .i64 m4] 23) := Cl.on N61.out b68
  have B69 : Hid (Below w.heap.size w v67) := B60.out.trans (b68.mono B60.out.size)
  clear b68 N63 N64 N65 N66 N61 B60
  go_wp2_with fail
  have N78 : Hid (Cl (v67.alloc (.cells #[.int .i64 n0, .int .i64 n1, .int .i64 n2, .int .i64 n3, .int .i64 n4] 23)) v67.heap.size #[.int .i64 n0, .int .i64 n1, .int .i64 n2, .int .i64 n3, .int .i64 n4] 23) := Cl.new v67 #[.int .i64 n0, .int .i64 n1, .int .i64 n2, .int .i64 n3, .int .i64 n4] 23
  have B77 : Hid (Below w.heap.size w (v67.alloc (.cells #[.int .i64 n0, .int .i64 n1, .int .i64 n2, .int .i64 n3, .int .i64 n4] 23))) := B69.out.alloc B69.out.size _
  have L79 : Hid (w.heap.size ≤ v67.heap.size) := B69.out.size
  have N80 : Hid (Cl (v67.alloc (.cells #[.int .i64 n0, .int .i64 n1, .int .i64 n2, .int .i64 n3, .int .i64 n4] 23)) w.heap.size #[.int .i64 n0, .int .i64 n1, .int .i64 n2, .int .i64 n3, .int .i64 n4] 23) := Cl.alloc N70.out _
  have N81 : Hid (Cl (v67.alloc (.cells #[.int .i64 n0, .int .i64 n1, .int .i64 n2, .int .i64 n3, .int .i64 n4] 23)) q2 #[.int .i64 m0, .int .i64 m1, .int .i64 m2, .int .i64 m3, .int .i64 m4] 23) := Cl.alloc N71.out _
  have N82 : Hid (Cl (v67.alloc (.cells #[.int .i64 n0, .int .i64 n1, .int .i64 n2, .int .i64 n3, .int .i64 n4] 23)) q31 #[.int .i64 0, .int .i64 0, .int .i64 0, .int .i64 0, .int .i64 0] 23) := Cl.alloc N72.out _
  have N83 : Hid (Cl (v67.alloc (.cells #[.int .i64 n0, .int .i64 n1, .int .i64 n2, .int .i64 n3, .int .i64 n4] 23)) q44 #[.int .i64 n0, .int .i64 n1, .int .i64 n2, .int .i64 n3, .int .i64 n4] 23) := Cl.alloc N73.out _
  have N84 : Hid (Cl (v67.alloc (.cells #[.int .i64 n0, .int .i64 n1, .int .i64 n2, .int .i64 n3, .int .i64 n4] 23)) q59 #[.int .i64 m0, .int .i64 m1, .int .i64 m2, .int .i64 m3, .int .i64 m4] 23) := Cl.alloc N74.out _
  clear N70 N71 N72 N73 N74 B69
  generalize v67.alloc (.cells #[.int .i64 n0, .int .i64 n1, .int .i64 n2, .int .i64 n3, .int .i64 n4] 23) = v75 at *
  generalize v67.heap.size = q76 at *
  refine Calls.mono (P4.out _ (TAB.out.below B77.out)) ?_
  rintro e v85 ⟨rfl, b86⟩
  have N88 : Hid (Cl v85 w.heap.size #[.int .i64 n0, .int .i64 n1, .int .i64 n2, .int .i64 n3, .int .i64 n4] 23) := Cl.on N80.out b86
  have N89 : Hid (Cl v85 q2 #[.int .i64 m0, .int .i64 m1, .int .i64 m2, .int .i64 m3, .int .i64 m4] 23) := Cl.on N81.out b86
  have N90 : Hid (Cl v85 q31 #[.int .i64 0, .int .i64 0, .int .i64 0, .int .i64 0, .int .i64 0] 23) := Cl.on N82.out b86
  have N91 : Hid (Cl v85 q44 #[.int .i64 n0, .int .i64 n1, .int .i64 n2, .int .i64 n3, .int .i64 n4] 23) := Cl.on N83.out b86
  have N92 : Hid (Cl v85 q59 #[.int .i64 m0, .int .i64 m1, .int .i64 m2, .int .i64 m3, .int .i64 m4] 23) := Cl.on N84.out b86
  have N93 : Hid (Cl v85 q76 #[.int .i64 n0, .int .i64 n1, .int .i64 n2, .int .i64 n3, .int .i64 n4] 23) := Cl.on N78.out b86
  have B87 : Hid (Below w.heap.size w v85) := B77.out.trans (b86.mono B77.out.size)
  clear b86 N80 N81 N82 N83 N84 N78 B77
  go_wp2_with fail
  have N97 : Hid (Cl (v85.alloc (.cells #[.int .i64 n0, .int .i64 n1, .int .i64 n2, .int .i64 n3, .int .i64 n4] 23)) v85.heap.size #[.int .i64 n0, .int .i64 n1, .int .i64 n2, .int .i64 n3, .int .i64 n4] 23) := Cl.new v85 #[.int .i64 n0, .int .i64 n1, .int .i64 n2, .int .i64 n3, .int .i64 n4] 23
  have B96 : Hid (Below w.heap.size w (v85.alloc (.cells #[.int .i64 n0, .int .i64 n1, .int .i64 n2, .int .i64 n3, .int .i64 n4] 23))) := B87.out.alloc B87.out.size _
  have L98 : Hid (w.heap.size ≤ v85.heap.size) := B87.out.size
  have N99 : Hid (Cl (v85.alloc (.cells #[.int .i64 n0, .int .i64 n1, .int .i64 n2, .int .i64 n3, .int .i64 n4] 23)) w.heap.size #[.int .i64 n0, .int .i64 n1, .int .i64 n2, .int .i64 n3, .int .i64 n4] 23) := Cl.alloc N88.out _
  have N100 : Hid (Cl (v85.alloc (.cells #[.int .i64 n0, .int .i64 n1, .int .i64 n2, .int .i64 n3, .int .i64 n4] 23)) q2 #[.int .i64 m0, .int .i64 m1, .int .i64 m2, .int .i64 m3, .int .i64 m4] 23) := Cl.alloc N89.out _
  have N101 : Hid (Cl (v85.alloc (.cells #[.int .i64 n0, .int .i64 n1, .int .i64 n2, .int .i64 n3, .int .i64 n4] 23)) q31 #[.int .i64 0, .int .i64 0, .int .i64 0, .int .i64 0, .int .i64 0] 23) := Cl.alloc N90.out _
  have N102 : Hid (Cl (v85.alloc (.cells #[.int .i64 n0, .int .i64 n1, .int .i64 n2, .int .i64 n3, .int .i64 n4] 23)) q44 #[.int .i64 n0, .int .i64 n1, .int .i64 n2, .int .i64 n3, .int .i64 n4] 23) := Cl.alloc N91.out _
  have N103 : Hid (Cl (v85.alloc (.cells #[.int .i64 n0, .int .i64 n1, .int .i64 n2, .int .i64 n3, .int .i64 n4] 23)) q59 #[.int .i64 m0, .int .i64 m1, .int .i64 m2, .int .i64 m3, .int .i64 m4] 23) := Cl.alloc N92.out _
  have N104 : Hid (Cl (v85.alloc (.cells #[.int .i64 n0, .int .i64 n1, .int .i64 n2, .int .i64 n3, .int .i64 n4] 23)) q76 #[.int .i64 n0, .int .i64 n1, .int .i64 n2, .int .i64 n3, .int .i64 n4] 23) := Cl.alloc N93.out _
  clear N88 N89 N90 N91 N92 N93 B87
  generalize v85.alloc (.cells #[.int .i64 n0, .int .i64 n1, .int .i64 n2, .int .i64 n3, .int .i64 n4] 23) = v94 at *
  generalize v85.heap.size = q95 at *
  refine Calls.mono (P5.out _ (TAB.out.below B96.out)) ?_
  rintro e v105 ⟨rfl, b106⟩
  have N108 : Hid (Cl v105 w.heap.size #[.int .i64 n0, .int .i64 n1, .int .i64 n2, .int .i64 n3, .int .i64 n4] 23) := Cl.on N99.out b106
  have N109 : Hid (Cl v105 q2 #[.int .i64 m0, .int .i64 m1, .int .i64 m2, .int .i64 m3, .int .i64 m4] 23) := Cl.on N100.out b106
  have N110 : Hid (Cl v105 q31 #[.int .i64 0, .int .i64 0, .int .i64 0, .int .i64 0, .int .i64 0] 23) := Cl.on N101.out b106
  have N111 : Hid (Cl v105 q44 #[.int .i64 n0, .int .i64 n1, .int .i64 n2, .int .i64 n3, .int .i64 n4] 23) := Cl.on N102.out b106
  have N112 : Hid (Cl v105 q59 #[.int .i64 m0, .int .i64 m1, .int .i64 m2, .int .i64 m3, .int .i64 m4] 23) := Cl.on N103.out b106
  have N113 : Hid (Cl v105 q76 #[.int .i64 n0, .int .i64 n1, .int .i64 n2, .int .i64 n3, .int .i64 n4] 23) := Cl.on N104.out b106
  have N114 : Hid (Cl v105 q95 #[.int .i64 n0, .int .i64 n1, .int .i64 n2, .int .i64 n3, .int .i64 n4] 23) := Cl.on N97.out b106
  have B107 : Hid (Below w.heap.size w v105) := B96.out.trans (b106.mono B96.out.size)
  clear b106 N99 N100 N101 N102 N103 N104 N97 B96
  go_upto_region 16 with fail
  have N118 : Hid (Cl (v105.alloc (.cells #[.int .i64 0, .int .i64 0, .int .i64 0, .int .i64 0, .int .i64 0] 23)) v105.heap.size #[.int .i64 0, .int .i64 0, .int .i64 0, .int .i64 0, .int .i64 0] 23) := Cl.new v105 #[.int .i64 0, .int .i64 0, .int .i64 0, .int .i64 0, .int .i64 0] 23
  have B117 : Hid (Below w.heap.size w (v105.alloc (.cells #[.int .i64 0, .int .i64 0, .int .i64 0, .int .i64 0, .int .i64 0] 23))) := B107.out.alloc B107.out.size _
  have L119 : Hid (w.heap.size ≤ v105.heap.size) := B107.out.size
  have N120 : Hid (Cl (v105.alloc (.cells #[.int .i64 0, .int .i64 0, .int .i64 0, .int .i64 0, .int .i64 0] 23)) w.heap.size #[.int .i64 n0, .int .i64 n1, .int .i64 n2, .int .i64 n3, .int .i64 n4] 23) := Cl.alloc N108.out _
  have N121 : Hid (Cl (v105.alloc (.cells #[.int .i64 0, .int .i64 0, .int .i64 0, .int .i64 0, .int .i64 0] 23)) q2 #[.int .i64 m0, .int .i64 m1, .int .i64 m2, .int .i64 m3, .int .i64 m4] 23) := Cl.alloc N109.out _
  have N122 : Hid (Cl (v105.alloc (.cells #[.int .i64 0, .int .i64 0, .int .i64 0, .int .i64 0, .int .i64 0] 23)) q31 #[.int .i64 0, .int .i64 0, .int .i64 0, .int .i64 0, .int .i64 0] 23) := Cl.alloc N110.out _
  have N123 : Hid (Cl (v105.alloc (.cells #[.int .i64 0, .int .i64 0, .int .i64 0, .int .i64 0, .int .i64 0] 23)) q44 #[.int .i64 n0, .int .i64 n1, .int .i64 n2, .int .i64 n3, .int .i64 n4] 23) := Cl.alloc N111.out _
  have N124 : Hid (Cl (v105.alloc (.cells #[.int .i64 0, .int .i64 0, .int .i64 0, .int .i64 0, .int .i64 0] 23)) q59 #[.int .i64 m0, .int .i64 m1, .int .i64 m2, .int .i64 m3, .int .i64 m4] 23) := Cl.alloc N112.out _
  have N125 : Hid (Cl (v105.alloc (.cells #[.int .i64 0, .int .i64 0, .int .i64 0, .int .i64 0, .int .i64 0] 23)) q76 #[.int .i64 n0, .int .i64 n1, .int .i64 n2, .int .i64 n3, .int .i64 n4] 23) := Cl.alloc N113.out _
  have N126 : Hid (Cl (v105.alloc (.cells #[.int .i64 0, .int .i64 0, .int .i64 0, .int .i64 0, .int .i64 0] 23)) q95 #[.int .i64 n0, .int .i64 n1, .int .i64 n2, .int .i64 n3, .int .i64 n4] 23) := Cl.alloc N114.out _
  clear N108 N109 N110 N111 N112 N113 N114 B107
  generalize v105.alloc (.cells #[.int .i64 0, .int .i64 0, .int .i64 0, .int .i64 0, .int .i64 0] 23) = v115 at *
  generalize v105.heap.size = q116 at *
  obtain ⟨c127_0, c127_1, c127_2, c127_3, c127_4⟩ := N120.out.five
  go_upto_region 17 with fail
  clear c127_0 c127_1 c127_2 c127_3 c127_4
  have N131 : Hid (Cl (v115.alloc (.cells #[.int .i64 n0, .int .i64 n1, .int .i64 n2, .int .i64 n3, .int .i64 n4] 23)) v115.heap.size #[.int .i64 n0, .int .i64 n1, .int .i64 n2, .int .i64 n3, .int .i64 n4] 23) := Cl.new v115 #[.int .i64 n0, .int .i64 n1, .int .i64 n2, .int .i64 n3, .int .i64 n4] 23
  have B130 : Hid (Below w.heap.size w (v115.alloc (.cells #[.int .i64 n0, .int .i64 n1, .int .i64 n2, .int .i64 n3, .int .i64 n4] 23))) := B117.out.alloc B117.out.size _
  have L132 : Hid (w.heap.size ≤ v115.heap.size) := B117.out.size
  have N133 : Hid (Cl (v115.alloc (.cells #[.int .i64 n0, .int .i64 n1, .int .i64 n2, .int .i64 n3, .int .i64 n4] 23)) w.heap.size #[.int .i64 n0, .int .i64 n1, .int .i64 n2, .int .i64 n3, .int .i64 n4] 23) := Cl.alloc N120.out _
  have N134 : Hid (Cl (v115.alloc (.cells #[.int .i64 n0, .int .i64 n1, .int .i64 n2, .int .i64 n3, .int .i64 n4] 23)) q2 #[.int .i64 m0, .int .i64 m1, .int .i64 m2, .int .i64 m3, .int .i64 m4] 23) := Cl.alloc N121.out _
  have N135 : Hid (Cl (v115.alloc (.cells #[.int .i64 n0, .int .i64 n1, .int .i64 n2, .int .i64 n3, .int .i64 n4] 23)) q31 #[.int .i64 0, .int .i64 0, .int .i64 0, .int .i64 0, .int .i64 0] 23) := Cl.alloc N122.out _
  have N136 : Hid (Cl (v115.alloc (.cells #[.int .i64 n0, .int .i64 n1, .int .i64 n2, .int .i64 n3, .int .i64 n4] 23)) q44 #[.int .i64 n0, .int .i64 n1, .int .i64 n2, .int .i64 n3, .int .i64 n4] 23) := Cl.alloc N123.out _
  have N137 : Hid (Cl (v115.alloc (.cells #[.int .i64 n0, .int .i64 n1, .int .i64 n2, .int .i64 n3, .int .i64 n4] 23)) q59 #[.int .i64 m0, .int .i64 m1, .int .i64 m2, .int .i64 m3, .int .i64 m4] 23) := Cl.alloc N124.out _
  have N138 : Hid (Cl (v115.alloc (.cells #[.int .i64 n0, .int .i64 n1, .int .i64 n2, .int .i64 n3, .int .i64 n4] 23)) q76 #[.int .i64 n0, .int .i64 n1, .int .i64 n2, .int .i64 n3, .int .i64 n4] 23) := Cl.alloc N125.out _
  have N139 : Hid (Cl (v115.alloc (.cells #[.int .i64 n0, .int .i64 n1, .int .i64 n2, .int .i64 n3, .int .i64 n4] 23)) q95 #[.int .i64 n0, .int .i64 n1, .int .i64 n2, .int .i64 n3, .int .i64 n4] 23) := Cl.alloc N126.out _
  have N140 : Hid (Cl (v115.alloc (.cells #[.int .i64 n0, .int .i64 n1, .int .i64 n2, .int .i64 n3, .int .i64 n4] 23)) q116 #[.int .i64 0, .int .i64 0, .int .i64 0, .int .i64 0, .int .i64 0] 23) := Cl.alloc N118.out _
  clear N120 N121 N122 N123 N124 N125 N126 N118 B117
  generalize v115.alloc (.cells #[.int .i64 n0, .int .i64 n1, .int .i64 n2, .int .i64 n3, .int .i64 n4] 23) = v128 at *
  generalize v115.heap.size = q129 at *
  obtain ⟨c141_0, c141_1, c141_2, c141_3, c141_4⟩ := N133.out.five
  obtain ⟨c142_0, c142_1, c142_2, c142_3, c142_4⟩ := N134.out.five
  obtain ⟨c143_0, c143_1, c143_2, c143_3, c143_4⟩ := N136.out.five
  obtain ⟨c144_0, c144_1, c144_2, c144_3, c144_4⟩ := N137.out.five
  obtain ⟨c145_0, c145_1, c145_2, c145_3, c145_4⟩ := N138.out.five
  obtain ⟨c146_0, c146_1, c146_2, c146_3, c146_4⟩ := N139.out.five
  obtain ⟨c147_0, c147_1, c147_2, c147_3, c147_4⟩ := N131.out.five
  go_wp2
  go_ret
  exact ⟨rfl, B130.out⟩

set_option maxRecDepth 100000 in
set_option maxHeartbeats 2000000 in
theorem newer_lt (a b : Rt) (s : ByteArray) (w : World) (T : Tab w) (hm : s.size ≤ maxLen) (h1 : ¬ 1000 < s.size) (ha : a.ok = true) (hb : b.ok = true) (hd : decB s.data.toList = false) (h2 : a.ep < b.ep) : Calls Tryd.prog 8 #[rtV a, rtV b, .string s] w fun e w' => e = .returned (.bool true) ∧ Below w.heap.size w w' := by
  have CW : Hid (∀ u, Tab u → Calls Tryd.prog 9 #[] u fun e w' => e = .returned (.bool true) ∧ Below u.heap.size u w') := works_any
  have TAB : Hid (Tab w) := T
  have es : s = ⟨s.data.toList.toArray⟩ := rfl
  have hl : s.data.toList.length ≤ maxLen := by rw [len_of]; exact hm
  have D1 : Hid (∀ u, Tab u → Calls Tryd.prog 12 #[.string ⟨s.data.toList.toArray⟩] u fun e w' => e = .returned (.tuple #[rtV rt0, .bool false]) ∧ Below u.heap.size u w') := fun u hu => dec_to s.data.toList hl rt0 false (decR_no hd) hd u hu
  have P1 : Hid (∀ u, Tab u → Calls Tryd.prog 14 #[.string ⟨(slotL a).toArray⟩, .string ⟨(slotL b).toArray⟩] u fun e w' => e = .returned (.tuple #[rtV b, .int .i64 0]) ∧ Below u.heap.size u w') := fun u hu => pick_to (slotL a) (slotL b) (slot_small a) (slot_small b) b 0 (pk_gt ha hb h2) (pkE_left (decB_slot ha)) u hu
  have P2 : Hid (∀ u, Tab u → Calls Tryd.prog 14 #[.string ⟨(slotL b).toArray⟩, .string ⟨(slotL a).toArray⟩] u fun e w' => e = .returned (.tuple #[rtV b, .int .i64 0]) ∧ Below u.heap.size u w') := fun u hu => pick_to (slotL b) (slotL a) (slot_small b) (slot_small a) b 0 (pk_le hb ha (by omega)) (pkE_left (decB_slot hb)) u hu
  have P3 : Hid (∀ u, Tab u → Calls Tryd.prog 14 #[.string ⟨(slotL a).toArray⟩, .string ⟨s.data.toList.toArray⟩] u fun e w' => e = .returned (.tuple #[rtV a, .int .i64 0]) ∧ Below u.heap.size u w') := fun u hu => pick_to (slotL a) s.data.toList (slot_small a) hl a 0 ((pkR_first (decB_slot ha) hd).trans (decR_slot ha)) (pkE_left (decB_slot ha)) u hu
  have P4 : Hid (∀ u, Tab u → Calls Tryd.prog 14 #[.string ⟨s.data.toList.toArray⟩, .string ⟨(slotL a).toArray⟩] u fun e w' => e = .returned (.tuple #[rtV a, .int .i64 0]) ∧ Below u.heap.size u w') := fun u hu => pick_to s.data.toList (slotL a) hl (slot_small a) a 0 ((pkR_second hd (decB_slot ha)).trans (decR_slot ha)) (pkE_right (decB_slot ha)) u hu
  have P5 : Hid (∀ u, Tab u → Calls Tryd.prog 14 #[.string ⟨s.data.toList.toArray⟩, .string ⟨s.data.toList.toArray⟩] u fun e w' => e = .returned (.tuple #[rtV rt0, .int .i64 70]) ∧ Below u.heap.size u w') := fun u hu => pick_to s.data.toList s.data.toList hl hl rt0 70 (pkR_none hd hd) (pkE_none hd hd) u hu
  have E1 : Hid (∀ u, Tab u → Calls Tryd.prog 10 #[rtV a] u fun e w' => e = .returned (.tuple #[.string ⟨(slotL a).toArray⟩, .int .i64 0]) ∧ Below u.heap.size u w') := fun u hu => enc_yes ha u hu
  have E2 : Hid (∀ u, Tab u → Calls Tryd.prog 10 #[rtV b] u fun e w' => e = .returned (.tuple #[.string ⟨(slotL b).toArray⟩, .int .i64 0]) ∧ Below u.heap.size u w') := fun u hu => enc_yes hb u hu
  rw [← es] at D1 P3 P4 P5
  generalize (⟨(slotL a).toArray⟩ : ByteArray) = sa at *
  generalize (⟨(slotL b).toArray⟩ : ByteArray) = sb at *
  clear ha hb hd es hl
  have h4 : (a.ep == b.ep) = false := beq_eq_false_iff_ne.2 (by omega)
  unfold maxLen at *
  clear T
  obtain ⟨n0, n1, n2, n3, n4⟩ := a
  obtain ⟨m0, m1, m2, m3, m4⟩ := b
  unfold rtV at *
  (try unfold rt0 at *)
  dsimp only at *
  go_enter Tryd.func8, Tryd.ntmps8
  go_wp2_with fail
  have N4 : Hid (Cl ((w.alloc (.cells #[.int .i64 n0, .int .i64 n1, .int .i64 n2, .int .i64 n3, .int .i64 n4] 23)).alloc (.cells #[.int .i64 m0, .int .i64 m1, .int .i64 m2, .int .i64 m3, .int .i64 m4] 23)) w.heap.size #[.int .i64 n0, .int .i64 n1, .int .i64 n2, .int .i64 n3, .int .i64 n4] 23) := Cl.alloc (Cl.new _ _ _) _
  have N5 : Hid (Cl ((w.alloc (.cells #[.int .i64 n0, .int .i64 n1, .int .i64 n2, .int .i64 n3, .int .i64 n4] 23)).alloc (.cells #[.int .i64 m0, .int .i64 m1, .int .i64 m2, .int .i64 m3, .int .i64 m4] 23)) (w.heap.size + 1) #[.int .i64 m0, .int .i64 m1, .int .i64 m2, .int .i64 m3, .int .i64 m4] 23) := by
    have := Cl.new (w.alloc (.cells #[.int .i64 n0, .int .i64 n1, .int .i64 n2, .int .i64 n3, .int .i64 n4] 23)) #[.int .i64 m0, .int .i64 m1, .int .i64 m2, .int .i64 m3, .int .i64 m4] 23
    rw [show (w.alloc (.cells #[.int .i64 n0, .int .i64 n1, .int .i64 n2, .int .i64 n3, .int .i64 n4] 23)).heap.size = w.heap.size + 1 by simp] at this
    exact this
  have B3 : Hid (Below w.heap.size w ((w.alloc (.cells #[.int .i64 n0, .int .i64 n1, .int .i64 n2, .int .i64 n3, .int .i64 n4] 23)).alloc (.cells #[.int .i64 m0, .int .i64 m1, .int .i64 m2, .int .i64 m3, .int .i64 m4] 23))) := ((Below.refl _ _).alloc (Nat.le_refl _) _).alloc (by simp) _
  have L6 : Hid (w.heap.size ≤ w.heap.size) := Nat.le_refl _
  have L7 : Hid (w.heap.size ≤ w.heap.size + 1) := Nat.le_succ _
  generalize (w.alloc (.cells #[.int .i64 n0, .int .i64 n1, .int .i64 n2, .int .i64 n3, .int .i64 n4] 23)).alloc (.cells #[.int .i64 m0, .int .i64 m1, .int .i64 m2, .int .i64 m3, .int .i64 m4] 23) = v1 at *
  generalize w.heap.size + 1 = q2 at *
  refine Calls.mono (CW.out _ (TAB.out.below B3.out)) ?_
  rintro e v8 ⟨rfl, b9⟩
  have N11 : Hid (Cl v8 w.heap.size #[.int .i64 n0, .int .i64 n1, .int .i64 n2, .int .i64 n3, .int .i64 n4] 23) := Cl.on N4.out b9
  have N12 : Hid (Cl v8 q2 #[.int .i64 m0, .int .i64 m1, .int .i64 m2, .int .i64 m3, .int .i64 m4] 23) := Cl.on N5.out b9
  have B10 : Hid (Below w.heap.size w v8) := B3.out.trans (b9.mono B3.out.size)
  clear b9 N4 N5 B3
  obtain ⟨c13_0, c13_1, c13_2, c13_3, c13_4⟩ := N11.out.five
  go_wp2_with fail
  clear c13_0 c13_1 c13_2 c13_3 c13_4
  refine Calls.mono (E1.out _ (TAB.out.below B10.out)) ?_
  rintro e v14 ⟨rfl, b15⟩
  have N17 : Hid (Cl v14 w.heap.size #[.int .i64 n0, .int .i64 n1, .int .i64 n2, .int .i64 n3, .int .i64 n4] 23) := Cl.on N11.out b15
  have N18 : Hid (Cl v14 q2 #[.int .i64 m0, .int .i64 m1, .int .i64 m2, .int .i64 m3, .int .i64 m4] 23) := Cl.on N12.out b15
  have B16 : Hid (Below w.heap.size w v14) := B10.out.trans (b15.mono B10.out.size)
  clear b15 N11 N12 B10
  obtain ⟨c19_0, c19_1, c19_2, c19_3, c19_4⟩ := N18.out.five
  go_wp2_with fail
  clear c19_0 c19_1 c19_2 c19_3 c19_4
  refine Calls.mono (E2.out _ (TAB.out.below B16.out)) ?_
  rintro e v20 ⟨rfl, b21⟩
  have N23 : Hid (Cl v20 w.heap.size #[.int .i64 n0, .int .i64 n1, .int .i64 n2, .int .i64 n3, .int .i64 n4] 23) := Cl.on N17.out b21
  have N24 : Hid (Cl v20 q2 #[.int .i64 m0, .int .i64 m1, .int .i64 m2, .int .i64 m3, .int .i64 m4] 23) := Cl.on N18.out b21
  have B22 : Hid (Below w.heap.size w v20) := B16.out.trans (b21.mono B16.out.size)
  clear b21 N17 N18 B16
  go_wp2_with fail
  refine Calls.mono (D1.out _ (TAB.out.below B22.out)) ?_
  rintro e v25 ⟨rfl, b26⟩
  have N28 : Hid (Cl v25 w.heap.size #[.int .i64 n0, .int .i64 n1, .int .i64 n2, .int .i64 n3, .int .i64 n4] 23) := Cl.on N23.out b26
  have N29 : Hid (Cl v25 q2 #[.int .i64 m0, .int .i64 m1, .int .i64 m2, .int .i64 m3, .int .i64 m4] 23) := Cl.on N24.out b26
  have B27 : Hid (Below w.heap.size w v25) := B22.out.trans (b26.mono B22.out.size)
  clear b26 N23 N24 B22
  go_upto_region 9 with fail
  have N33 : Hid (Cl (v25.alloc (.cells #[.int .i64 0, .int .i64 0, .int .i64 0, .int .i64 0, .int .i64 0] 23)) v25.heap.size #[.int .i64 0, .int .i64 0, .int .i64 0, .int .i64 0, .int .i64 0] 23) := Cl.new v25 #[.int .i64 0, .int .i64 0, .int .i64 0, .int .i64 0, .int .i64 0] 23
  have B32 : Hid (Below w.heap.size w (v25.alloc (.cells #[.int .i64 0, .int .i64 0, .int .i64 0, .int .i64 0, .int .i64 0] 23))) := B27.out.alloc B27.out.size _
  have L34 : Hid (w.heap.size ≤ v25.heap.size) := B27.out.size
  have N35 : Hid (Cl (v25.alloc (.cells #[.int .i64 0, .int .i64 0, .int .i64 0, .int .i64 0, .int .i64 0] 23)) w.heap.size #[.int .i64 n0, .int .i64 n1, .int .i64 n2, .int .i64 n3, .int .i64 n4] 23) := Cl.alloc N28.out _
  have N36 : Hid (Cl (v25.alloc (.cells #[.int .i64 0, .int .i64 0, .int .i64 0, .int .i64 0, .int .i64 0] 23)) q2 #[.int .i64 m0, .int .i64 m1, .int .i64 m2, .int .i64 m3, .int .i64 m4] 23) := Cl.alloc N29.out _
  clear N28 N29 B27
  generalize v25.alloc (.cells #[.int .i64 0, .int .i64 0, .int .i64 0, .int .i64 0, .int .i64 0] 23) = v30 at *
  generalize v25.heap.size = q31 at *
  go_wp2_with fail
  refine Calls.mono (P1.out _ (TAB.out.below B32.out)) ?_
  rintro e v37 ⟨rfl, b38⟩
  have N40 : Hid (Cl v37 w.heap.size #[.int .i64 n0, .int .i64 n1, .int .i64 n2, .int .i64 n3, .int .i64 n4] 23) := Cl.on N35.out b38
  have N41 : Hid (Cl v37 q2 #[.int .i64 m0, .int .i64 m1, .int .i64 m2, .int .i64 m3, .int .i64 m4] 23) := Cl.on N36.out b38
  have N42 : Hid (Cl v37 q31 #[.int .i64 0, .int .i64 0, .int .i64 0, .int .i64 0, .int .i64 0] 23) := Cl.on N33.out b38
  have B39 : Hid (Below w.heap.size w v37) := B32.out.trans (b38.mono B32.out.size)
  clear b38 N35 N36 N33 B32
  go_wp2_with fail
  have N46 : Hid (Cl (v37.alloc (.cells #[.int .i64 m0, .int .i64 m1, .int .i64 m2, .int .i64 m3, .int .i64 m4] 23)) v37.heap.size #[.int .i64 m0, .int .i64 m1, .int .i64 m2, .int .i64 m3, .int .i64 m4] 23) := Cl.new v37 #[.int .i64 m0, .int .i64 m1, .int .i64 m2, .int .i64 m3, .int .i64 m4] 23
  have B45 : Hid (Below w.heap.size w (v37.alloc (.cells #[.int .i64 m0, .int .i64 m1, .int .i64 m2, .int .i64 m3, .int .i64 m4] 23))) := B39.out.alloc B39.out.size _
  have L47 : Hid (w.heap.size ≤ v37.heap.size) := B39.out.size
  have N48 : Hid (Cl (v37.alloc (.cells #[.int .i64 m0, .int .i64 m1, .int .i64 m2, .int .i64 m3, .int .i64 m4] 23)) w.heap.size #[.int .i64 n0, .int .i64 n1, .int .i64 n2, .int .i64 n3, .int .i64 n4] 23) := Cl.alloc N40.out _
  have N49 : Hid (Cl (v37.alloc (.cells #[.int .i64 m0, .int .i64 m1, .int .i64 m2, .int .i64 m3, .int .i64 m4] 23)) q2 #[.int .i64 m0, .int .i64 m1, .int .i64 m2, .int .i64 m3, .int .i64 m4] 23) := Cl.alloc N41.out _
  have N50 : Hid (Cl (v37.alloc (.cells #[.int .i64 m0, .int .i64 m1, .int .i64 m2, .int .i64 m3, .int .i64 m4] 23)) q31 #[.int .i64 0, .int .i64 0, .int .i64 0, .int .i64 0, .int .i64 0] 23) := Cl.alloc N42.out _
  clear N40 N41 N42 B39
  generalize v37.alloc (.cells #[.int .i64 m0, .int .i64 m1, .int .i64 m2, .int .i64 m3, .int .i64 m4] 23) = v43 at *
  generalize v37.heap.size = q44 at *
  refine Calls.mono (P2.out _ (TAB.out.below B45.out)) ?_
  rintro e v51 ⟨rfl, b52⟩
  have N54 : Hid (Cl v51 w.heap.size #[.int .i64 n0, .int .i64 n1, .int .i64 n2, .int .i64 n3, .int .i64 n4] 23) := Cl.on N48.out b52
  have N55 : Hid (Cl v51 q2 #[.int .i64 m0, .int .i64 m1, .int .i64 m2, .int .i64 m3, .int .i64 m4] 23) := Cl.on N49.out b52
  have N56 : Hid (Cl v51 q31 #[.int .i64 0, .int .i64 0, .int .i64 0, .int .i64 0, .int .i64 0] 23) := Cl.on N50.out b52
  have N57 : Hid (Cl v51 q44 #[.int .i64 m0, .int .i64 m1, .int .i64 m2, .int .i64 m3, .int .i64 m4] 23) := Cl.on N46.out b52
  have B53 : Hid (Below w.heap.size w v51) := B45.out.trans (b52.mono B45.out.size)
  clear b52 N48 N49 N50 N46 B45
  go_wp2_with fail
  have N61 : Hid (Cl (v51.alloc (.cells #[.int .i64 m0, .int .i64 m1, .int .i64 m2, .int .i64 m3, .int .i64 m4] 23)) v51.heap.size #[.int .i64 m0, .int .i64 m1, .int .i64 m2, .int .i64 m3, .int .i64 m4] 23) := Cl.new v51 #[.int .i64 m0, .int .i64 m1, .int .i64 m2, .int .i64 m3, .int .i64 m4] 23
  have B60 : Hid (Below w.heap.size w (v51.alloc (.cells #[.int .i64 m0, .int .i64 m1, .int .i64 m2, .int .i64 m3, .int .i64 m4] 23))) := B53.out.alloc B53.out.size _
  have L62 : Hid (w.heap.size ≤ v51.heap.size) := B53.out.size
  have N63 : Hid (Cl (v51.alloc (.cells #[.int .i64 m0, .int .i64 m1, .int .i64 m2, .int .i64 m3, .int .i64 m4] 23)) w.heap.size #[.int .i64 n0, .int .i64 n1, .int .i64 n2, .int .i64 n3, .int .i64 n4] 23) := Cl.alloc N54.out _
  have N64 : Hid (Cl (v51.alloc (.cells #[.int .i64 m0, .int .i64 m1, .int .i64 m2, .int .i64 m3, .int .i64 m4] 23)) q2 #[.int .i64 m0, .int .i64 m1, .int .i64 m2, .int .i64 m3, .int .i64 m4] 23) := Cl.alloc N55.out _
  have N65 : Hid (Cl (v51.alloc (.cells #[.int .i64 m0, .int .i64 m1, .int .i64 m2, .int .i64 m3, .int .i64 m4] 23)) q31 #[.int .i64 0, .int .i64 0, .int .i64 0, .int .i64 0, .int .i64 0] 23) := Cl.alloc N56.out _
  have N66 : Hid (Cl (v51.alloc (.cells #[.int .i64 m0, .int .i64 m1, .int .i64 m2, .int .i64 m3, .int .i64 m4] 23)) q44 #[.int .i64 m0, .int .i64 m1, .int .i64 m2, .int .i64 m3, .int .i64 m4] 23) := Cl.alloc N57.out _
  clear N54 N55 N56 N57 B53
  generalize v51.alloc (.cells #[.int .i64 m0, .int .i64 m1, .int .i64 m2, .int .i64 m3, .int .i64 m4] 23) = v58 at *
  generalize v51.heap.size = q59 at *
  refine Calls.mono (P3.out _ (TAB.out.below B60.out)) ?_
  rintro e v67 ⟨rfl, b68⟩
  have N70 : Hid (Cl v67 w.heap.size #[.int .i64 n0, .int .i64 n1, .int .i64 n2, .int .i64 n3, .int .i64 n4] 23) := Cl.on N63.out b68
  have N71 : Hid (Cl v67 q2 #[.int .i64 m0, .int .i64 m1, .int .i64 m2, .int .i64 m3, .int .i64 m4] 23) := Cl.on N64.out b68
  have N72 : Hid (Cl v67 q31 #[.int .i64 0, .int .i64 0, .int .i64 0, .int .i64 0, .int .i64 0] 23) := Cl.on N65.out b68
  have N73 : Hid (Cl v67 q44 #[.int .i64 m0, .int .i64 m1, .int .i64 m2, .int .i64 m3, .int .i64 m4] 23) := Cl.on N66.out b68
  have N74 : Hid (Cl v67 q59 #[.int .i64 m0, .int .i64 m1, .int .i64 m2, .int .i64 m3, .int .i64 m4] 23) := Cl.on N61.out b68
  have B69 : Hid (Below w.heap.size w v67) := B60.out.trans (b68.mono B60.out.size)
  clear b68 N63 N64 N65 N66 N61 B60
  go_wp2_with fail
  have N78 : Hid (Cl (v67.alloc (.cells #[.int .i64 n0, .int .i64 n1, .int .i64 n2, .int .i64 n3, .int .i64 n4] 23)) v67.heap.size #[.int .i64 n0, .int .i64 n1, .int .i64 n2, .int .i64 n3, .int .i64 n4] 23) := Cl.new v67 #[.int .i64 n0, .int .i64 n1, .int .i64 n2, .int .i64 n3, .int .i64 n4] 23
  have B77 : Hid (Below w.heap.size w (v67.alloc (.cells #[.int .i64 n0, .int .i64 n1, .int .i64 n2, .int .i64 n3, .int .i64 n4] 23))) := B69.out.alloc B69.out.size _
  have L79 : Hid (w.heap.size ≤ v67.heap.size) := B69.out.size
  have N80 : Hid (Cl (v67.alloc (.cells #[.int .i64 n0, .int .i64 n1, .int .i64 n2, .int .i64 n3, .int .i64 n4] 23)) w.heap.size #[.int .i64 n0, .int .i64 n1, .int .i64 n2, .int .i64 n3, .int .i64 n4] 23) := Cl.alloc N70.out _
  have N81 : Hid (Cl (v67.alloc (.cells #[.int .i64 n0, .int .i64 n1, .int .i64 n2, .int .i64 n3, .int .i64 n4] 23)) q2 #[.int .i64 m0, .int .i64 m1, .int .i64 m2, .int .i64 m3, .int .i64 m4] 23) := Cl.alloc N71.out _
  have N82 : Hid (Cl (v67.alloc (.cells #[.int .i64 n0, .int .i64 n1, .int .i64 n2, .int .i64 n3, .int .i64 n4] 23)) q31 #[.int .i64 0, .int .i64 0, .int .i64 0, .int .i64 0, .int .i64 0] 23) := Cl.alloc N72.out _
  have N83 : Hid (Cl (v67.alloc (.cells #[.int .i64 n0, .int .i64 n1, .int .i64 n2, .int .i64 n3, .int .i64 n4] 23)) q44 #[.int .i64 m0, .int .i64 m1, .int .i64 m2, .int .i64 m3, .int .i64 m4] 23) := Cl.alloc N73.out _
  have N84 : Hid (Cl (v67.alloc (.cells #[.int .i64 n0, .int .i64 n1, .int .i64 n2, .int .i64 n3, .int .i64 n4] 23)) q59 #[.int .i64 m0, .int .i64 m1, .int .i64 m2, .int .i64 m3, .int .i64 m4] 23) := Cl.alloc N74.out _
  clear N70 N71 N72 N73 N74 B69
  generalize v67.alloc (.cells #[.int .i64 n0, .int .i64 n1, .int .i64 n2, .int .i64 n3, .int .i64 n4] 23) = v75 at *
  generalize v67.heap.size = q76 at *
  refine Calls.mono (P4.out _ (TAB.out.below B77.out)) ?_
  rintro e v85 ⟨rfl, b86⟩
  have N88 : Hid (Cl v85 w.heap.size #[.int .i64 n0, .int .i64 n1, .int .i64 n2, .int .i64 n3, .int .i64 n4] 23) := Cl.on N80.out b86
  have N89 : Hid (Cl v85 q2 #[.int .i64 m0, .int .i64 m1, .int .i64 m2, .int .i64 m3, .int .i64 m4] 23) := Cl.on N81.out b86
  have N90 : Hid (Cl v85 q31 #[.int .i64 0, .int .i64 0, .int .i64 0, .int .i64 0, .int .i64 0] 23) := Cl.on N82.out b86
  have N91 : Hid (Cl v85 q44 #[.int .i64 m0, .int .i64 m1, .int .i64 m2, .int .i64 m3, .int .i64 m4] 23) := Cl.on N83.out b86
  have N92 : Hid (Cl v85 q59 #[.int .i64 m0, .int .i64 m1, .int .i64 m2, .int .i64 m3, .int .i64 m4] 23) := Cl.on N84.out b86
  have N93 : Hid (Cl v85 q76 #[.int .i64 n0, .int .i64 n1, .int .i64 n2, .int .i64 n3, .int .i64 n4] 23) := Cl.on N78.out b86
  have B87 : Hid (Below w.heap.size w v85) := B77.out.trans (b86.mono B77.out.size)
  clear b86 N80 N81 N82 N83 N84 N78 B77
  go_wp2_with fail
  have N97 : Hid (Cl (v85.alloc (.cells #[.int .i64 n0, .int .i64 n1, .int .i64 n2, .int .i64 n3, .int .i64 n4] 23)) v85.heap.size #[.int .i64 n0, .int .i64 n1, .int .i64 n2, .int .i64 n3, .int .i64 n4] 23) := Cl.new v85 #[.int .i64 n0, .int .i64 n1, .int .i64 n2, .int .i64 n3, .int .i64 n4] 23
  have B96 : Hid (Below w.heap.size w (v85.alloc (.cells #[.int .i64 n0, .int .i64 n1, .int .i64 n2, .int .i64 n3, .int .i64 n4] 23))) := B87.out.alloc B87.out.size _
  have L98 : Hid (w.heap.size ≤ v85.heap.size) := B87.out.size
  have N99 : Hid (Cl (v85.alloc (.cells #[.int .i64 n0, .int .i64 n1, .int .i64 n2, .int .i64 n3, .int .i64 n4] 23)) w.heap.size #[.int .i64 n0, .int .i64 n1, .int .i64 n2, .int .i64 n3, .int .i64 n4] 23) := Cl.alloc N88.out _
  have N100 : Hid (Cl (v85.alloc (.cells #[.int .i64 n0, .int .i64 n1, .int .i64 n2, .int .i64 n3, .int .i64 n4] 23)) q2 #[.int .i64 m0, .int .i64 m1, .int .i64 m2, .int .i64 m3, .int .i64 m4] 23) := Cl.alloc N89.out _
  have N101 : Hid (Cl (v85.alloc (.cells #[.int .i64 n0, .int .i64 n1, .int .i64 n2, .int .i64 n3, .int .i64 n4] 23)) q31 #[.int .i64 0, .int .i64 0, .int .i64 0, .int .i64 0, .int .i64 0] 23) := Cl.alloc N90.out _
  have N102 : Hid (Cl (v85.alloc (.cells #[.int .i64 n0, .int .i64 n1, .int .i64 n2, .int .i64 n3, .int .i64 n4] 23)) q44 #[.int .i64 m0, .int .i64 m1, .int .i64 m2, .int .i64 m3, .int .i64 m4] 23) := Cl.alloc N91.out _
  have N103 : Hid (Cl (v85.alloc (.cells #[.int .i64 n0, .int .i64 n1, .int .i64 n2, .int .i64 n3, .int .i64 n4] 23)) q59 #[.int .i64 m0, .int .i64 m1, .int .i64 m2, .int .i64 m3, .int .i64 m4] 23) := Cl.alloc N92.out _
  have N104 : Hid (Cl (v85.alloc (.cells #[.int .i64 n0, .int .i64 n1, .int .i64 n2, .int .i64 n3, .int .i64 n4] 23)) q76 #[.int .i64 n0, .int .i64 n1, .int .i64 n2, .int .i64 n3, .int .i64 n4] 23) := Cl.alloc N93.out _
  clear N88 N89 N90 N91 N92 N93 B87
  generalize v85.alloc (.cells #[.int .i64 n0, .int .i64 n1, .int .i64 n2, .int .i64 n3, .int .i64 n4] 23) = v94 at *
  generalize v85.heap.size = q95 at *
  refine Calls.mono (P5.out _ (TAB.out.below B96.out)) ?_
  rintro e v105 ⟨rfl, b106⟩
  have N108 : Hid (Cl v105 w.heap.size #[.int .i64 n0, .int .i64 n1, .int .i64 n2, .int .i64 n3, .int .i64 n4] 23) := Cl.on N99.out b106
  have N109 : Hid (Cl v105 q2 #[.int .i64 m0, .int .i64 m1, .int .i64 m2, .int .i64 m3, .int .i64 m4] 23) := Cl.on N100.out b106
  have N110 : Hid (Cl v105 q31 #[.int .i64 0, .int .i64 0, .int .i64 0, .int .i64 0, .int .i64 0] 23) := Cl.on N101.out b106
  have N111 : Hid (Cl v105 q44 #[.int .i64 m0, .int .i64 m1, .int .i64 m2, .int .i64 m3, .int .i64 m4] 23) := Cl.on N102.out b106
  have N112 : Hid (Cl v105 q59 #[.int .i64 m0, .int .i64 m1, .int .i64 m2, .int .i64 m3, .int .i64 m4] 23) := Cl.on N103.out b106
  have N113 : Hid (Cl v105 q76 #[.int .i64 n0, .int .i64 n1, .int .i64 n2, .int .i64 n3, .int .i64 n4] 23) := Cl.on N104.out b106
  have N114 : Hid (Cl v105 q95 #[.int .i64 n0, .int .i64 n1, .int .i64 n2, .int .i64 n3, .int .i64 n4] 23) := Cl.on N97.out b106
  have B107 : Hid (Below w.heap.size w v105) := B96.out.trans (b106.mono B96.out.size)
  clear b106 N99 N100 N101 N102 N103 N104 N97 B96
  go_upto_region 16 with fail
  have N118 : Hid (Cl (v105.alloc (.cells #[.int .i64 0, .int .i64 0, .int .i64 0, .int .i64 0, .int .i64 0] 23)) v105.heap.size #[.int .i64 0, .int .i64 0, .int .i64 0, .int .i64 0, .int .i64 0] 23) := Cl.new v105 #[.int .i64 0, .int .i64 0, .int .i64 0, .int .i64 0, .int .i64 0] 23
  have B117 : Hid (Below w.heap.size w (v105.alloc (.cells #[.int .i64 0, .int .i64 0, .int .i64 0, .int .i64 0, .int .i64 0] 23))) := B107.out.alloc B107.out.size _
  have L119 : Hid (w.heap.size ≤ v105.heap.size) := B107.out.size
  have N120 : Hid (Cl (v105.alloc (.cells #[.int .i64 0, .int .i64 0, .int .i64 0, .int .i64 0, .int .i64 0] 23)) w.heap.size #[.int .i64 n0, .int .i64 n1, .int .i64 n2, .int .i64 n3, .int .i64 n4] 23) := Cl.alloc N108.out _
  have N121 : Hid (Cl (v105.alloc (.cells #[.int .i64 0, .int .i64 0, .int .i64 0, .int .i64 0, .int .i64 0] 23)) q2 #[.int .i64 m0, .int .i64 m1, .int .i64 m2, .int .i64 m3, .int .i64 m4] 23) := Cl.alloc N109.out _
  have N122 : Hid (Cl (v105.alloc (.cells #[.int .i64 0, .int .i64 0, .int .i64 0, .int .i64 0, .int .i64 0] 23)) q31 #[.int .i64 0, .int .i64 0, .int .i64 0, .int .i64 0, .int .i64 0] 23) := Cl.alloc N110.out _
  have N123 : Hid (Cl (v105.alloc (.cells #[.int .i64 0, .int .i64 0, .int .i64 0, .int .i64 0, .int .i64 0] 23)) q44 #[.int .i64 m0, .int .i64 m1, .int .i64 m2, .int .i64 m3, .int .i64 m4] 23) := Cl.alloc N111.out _
  have N124 : Hid (Cl (v105.alloc (.cells #[.int .i64 0, .int .i64 0, .int .i64 0, .int .i64 0, .int .i64 0] 23)) q59 #[.int .i64 m0, .int .i64 m1, .int .i64 m2, .int .i64 m3, .int .i64 m4] 23) := Cl.alloc N112.out _
  have N125 : Hid (Cl (v105.alloc (.cells #[.int .i64 0, .int .i64 0, .int .i64 0, .int .i64 0, .int .i64 0] 23)) q76 #[.int .i64 n0, .int .i64 n1, .int .i64 n2, .int .i64 n3, .int .i64 n4] 23) := Cl.alloc N113.out _
  have N126 : Hid (Cl (v105.alloc (.cells #[.int .i64 0, .int .i64 0, .int .i64 0, .int .i64 0, .int .i64 0] 23)) q95 #[.int .i64 n0, .int .i64 n1, .int .i64 n2, .int .i64 n3, .int .i64 n4] 23) := Cl.alloc N114.out _
  clear N108 N109 N110 N111 N112 N113 N114 B107
  generalize v105.alloc (.cells #[.int .i64 0, .int .i64 0, .int .i64 0, .int .i64 0, .int .i64 0] 23) = v115 at *
  generalize v105.heap.size = q116 at *
  obtain ⟨c127_0, c127_1, c127_2, c127_3, c127_4⟩ := N120.out.five
  go_upto_region 17 with fail
  clear c127_0 c127_1 c127_2 c127_3 c127_4
  have N131 : Hid (Cl (v115.alloc (.cells #[.int .i64 n0, .int .i64 n1, .int .i64 n2, .int .i64 n3, .int .i64 n4] 23)) v115.heap.size #[.int .i64 n0, .int .i64 n1, .int .i64 n2, .int .i64 n3, .int .i64 n4] 23) := Cl.new v115 #[.int .i64 n0, .int .i64 n1, .int .i64 n2, .int .i64 n3, .int .i64 n4] 23
  have B130 : Hid (Below w.heap.size w (v115.alloc (.cells #[.int .i64 n0, .int .i64 n1, .int .i64 n2, .int .i64 n3, .int .i64 n4] 23))) := B117.out.alloc B117.out.size _
  have L132 : Hid (w.heap.size ≤ v115.heap.size) := B117.out.size
  have N133 : Hid (Cl (v115.alloc (.cells #[.int .i64 n0, .int .i64 n1, .int .i64 n2, .int .i64 n3, .int .i64 n4] 23)) w.heap.size #[.int .i64 n0, .int .i64 n1, .int .i64 n2, .int .i64 n3, .int .i64 n4] 23) := Cl.alloc N120.out _
  have N134 : Hid (Cl (v115.alloc (.cells #[.int .i64 n0, .int .i64 n1, .int .i64 n2, .int .i64 n3, .int .i64 n4] 23)) q2 #[.int .i64 m0, .int .i64 m1, .int .i64 m2, .int .i64 m3, .int .i64 m4] 23) := Cl.alloc N121.out _
  have N135 : Hid (Cl (v115.alloc (.cells #[.int .i64 n0, .int .i64 n1, .int .i64 n2, .int .i64 n3, .int .i64 n4] 23)) q31 #[.int .i64 0, .int .i64 0, .int .i64 0, .int .i64 0, .int .i64 0] 23) := Cl.alloc N122.out _
  have N136 : Hid (Cl (v115.alloc (.cells #[.int .i64 n0, .int .i64 n1, .int .i64 n2, .int .i64 n3, .int .i64 n4] 23)) q44 #[.int .i64 m0, .int .i64 m1, .int .i64 m2, .int .i64 m3, .int .i64 m4] 23) := Cl.alloc N123.out _
  have N137 : Hid (Cl (v115.alloc (.cells #[.int .i64 n0, .int .i64 n1, .int .i64 n2, .int .i64 n3, .int .i64 n4] 23)) q59 #[.int .i64 m0, .int .i64 m1, .int .i64 m2, .int .i64 m3, .int .i64 m4] 23) := Cl.alloc N124.out _
  have N138 : Hid (Cl (v115.alloc (.cells #[.int .i64 n0, .int .i64 n1, .int .i64 n2, .int .i64 n3, .int .i64 n4] 23)) q76 #[.int .i64 n0, .int .i64 n1, .int .i64 n2, .int .i64 n3, .int .i64 n4] 23) := Cl.alloc N125.out _
  have N139 : Hid (Cl (v115.alloc (.cells #[.int .i64 n0, .int .i64 n1, .int .i64 n2, .int .i64 n3, .int .i64 n4] 23)) q95 #[.int .i64 n0, .int .i64 n1, .int .i64 n2, .int .i64 n3, .int .i64 n4] 23) := Cl.alloc N126.out _
  have N140 : Hid (Cl (v115.alloc (.cells #[.int .i64 n0, .int .i64 n1, .int .i64 n2, .int .i64 n3, .int .i64 n4] 23)) q116 #[.int .i64 0, .int .i64 0, .int .i64 0, .int .i64 0, .int .i64 0] 23) := Cl.alloc N118.out _
  have A141 : Hid (w.heap.size ≠ v115.heap.size) := Nat.ne_of_lt (Cl.lt N120.out)
  have A142 : Hid (q2 ≠ v115.heap.size) := Nat.ne_of_lt (Cl.lt N121.out)
  have A143 : Hid (q31 ≠ v115.heap.size) := Nat.ne_of_lt (Cl.lt N122.out)
  have A144 : Hid (q44 ≠ v115.heap.size) := Nat.ne_of_lt (Cl.lt N123.out)
  have A145 : Hid (q59 ≠ v115.heap.size) := Nat.ne_of_lt (Cl.lt N124.out)
  have A146 : Hid (q76 ≠ v115.heap.size) := Nat.ne_of_lt (Cl.lt N125.out)
  have A147 : Hid (q95 ≠ v115.heap.size) := Nat.ne_of_lt (Cl.lt N126.out)
  have A148 : Hid (q116 ≠ v115.heap.size) := Nat.ne_of_lt (Cl.lt N118.out)
  clear N120 N121 N122 N123 N124 N125 N126 N118 B117
  generalize v115.alloc (.cells #[.int .i64 n0, .int .i64 n1, .int .i64 n2, .int .i64 n3, .int .i64 n4] 23) = v128 at *
  generalize v115.heap.size = q129 at *
  obtain ⟨c149_0, c149_1, c149_2, c149_3, c149_4⟩ := N133.out.five
  obtain ⟨c150_0, c150_1, c150_2, c150_3, c150_4⟩ := N134.out.five
  obtain ⟨c151_0, c151_1, c151_2, c151_3, c151_4⟩ := N131.out.five
  have g152_0 := N131.out.frozen 0
  have g152_1 := N131.out.frozen 1
  have g152_2 := N131.out.frozen 2
  have g152_3 := N131.out.frozen 3
  have g152_4 := N131.out.frozen 4
  have N155 : Hid (Cl (((((v128.setCell ⟨q129, 0, none⟩ (.int .i64 m0)).setCell ⟨q129, 1, none⟩ (.int .i64 m1)).setCell ⟨q129, 2, none⟩ (.int .i64 m2)).setCell ⟨q129, 3, none⟩ (.int .i64 m3)).setCell ⟨q129, 4, none⟩ (.int .i64 m4)) q129 #[.int .i64 m0, .int .i64 m1, .int .i64 m2, .int .i64 m3, .int .i64 m4] 23) := Cl.set5 N131.out _ _ _ _ _
  have B154 : Hid (Below w.heap.size w (((((v128.setCell ⟨q129, 0, none⟩ (.int .i64 m0)).setCell ⟨q129, 1, none⟩ (.int .i64 m1)).setCell ⟨q129, 2, none⟩ (.int .i64 m2)).setCell ⟨q129, 3, none⟩ (.int .i64 m3)).setCell ⟨q129, 4, none⟩ (.int .i64 m4))) := B130.out.trans ((only_set5 v128 q129 _ _ _ _ _).below L132.out)
  have N156 : Hid (Cl (((((v128.setCell ⟨q129, 0, none⟩ (.int .i64 m0)).setCell ⟨q129, 1, none⟩ (.int .i64 m1)).setCell ⟨q129, 2, none⟩ (.int .i64 m2)).setCell ⟨q129, 3, none⟩ (.int .i64 m3)).setCell ⟨q129, 4, none⟩ (.int .i64 m4)) w.heap.size #[.int .i64 n0, .int .i64 n1, .int .i64 n2, .int .i64 n3, .int .i64 n4] 23) := Cl.only N133.out (only_set5 v128 q129 _ _ _ _ _) A141.out
  have N157 : Hid (Cl (((((v128.setCell ⟨q129, 0, none⟩ (.int .i64 m0)).setCell ⟨q129, 1, none⟩ (.int .i64 m1)).setCell ⟨q129, 2, none⟩ (.int .i64 m2)).setCell ⟨q129, 3, none⟩ (.int .i64 m3)).setCell ⟨q129, 4, none⟩ (.int .i64 m4)) q2 #[.int .i64 m0, .int .i64 m1, .int .i64 m2, .int .i64 m3, .int .i64 m4] 23) := Cl.only N134.out (only_set5 v128 q129 _ _ _ _ _) A142.out
  have N158 : Hid (Cl (((((v128.setCell ⟨q129, 0, none⟩ (.int .i64 m0)).setCell ⟨q129, 1, none⟩ (.int .i64 m1)).setCell ⟨q129, 2, none⟩ (.int .i64 m2)).setCell ⟨q129, 3, none⟩ (.int .i64 m3)).setCell ⟨q129, 4, none⟩ (.int .i64 m4)) q31 #[.int .i64 0, .int .i64 0, .int .i64 0, .int .i64 0, .int .i64 0] 23) := Cl.only N135.out (only_set5 v128 q129 _ _ _ _ _) A143.out
  have N159 : Hid (Cl (((((v128.setCell ⟨q129, 0, none⟩ (.int .i64 m0)).setCell ⟨q129, 1, none⟩ (.int .i64 m1)).setCell ⟨q129, 2, none⟩ (.int .i64 m2)).setCell ⟨q129, 3, none⟩ (.int .i64 m3)).setCell ⟨q129, 4, none⟩ (.int .i64 m4)) q44 #[.int .i64 m0, .int .i64 m1, .int .i64 m2, .int .i64 m3, .int .i64 m4] 23) := Cl.only N136.out (only_set5 v128 q129 _ _ _ _ _) A144.out
  have N160 : Hid (Cl (((((v128.setCell ⟨q129, 0, none⟩ (.int .i64 m0)).setCell ⟨q129, 1, none⟩ (.int .i64 m1)).setCell ⟨q129, 2, none⟩ (.int .i64 m2)).setCell ⟨q129, 3, none⟩ (.int .i64 m3)).setCell ⟨q129, 4, none⟩ (.int .i64 m4)) q59 #[.int .i64 m0, .int .i64 m1, .int .i64 m2, .int .i64 m3, .int .i64 m4] 23) := Cl.only N137.out (only_set5 v128 q129 _ _ _ _ _) A145.out
  have N161 : Hid (Cl (((((v128.setCell ⟨q129, 0, none⟩ (.int .i64 m0)).setCell ⟨q129, 1, none⟩ (.int .i64 m1)).setCell ⟨q129, 2, none⟩ (.int .i64 m2)).setCell ⟨q129, 3, none⟩ (.int .i64 m3)).setCell ⟨q129, 4, none⟩ (.int .i64 m4)) q76 #[.int .i64 n0, .int .i64 n1, .int .i64 n2, .int .i64 n3, .int .i64 n4] 23) := Cl.only N138.out (only_set5 v128 q129 _ _ _ _ _) A146.out
  have N162 : Hid (Cl (((((v128.setCell ⟨q129, 0, none⟩ (.int .i64 m0)).setCell ⟨q129, 1, none⟩ (.int .i64 m1)).setCell ⟨q129, 2, none⟩ (.int .i64 m2)).setCell ⟨q129, 3, none⟩ (.int .i64 m3)).setCell ⟨q129, 4, none⟩ (.int .i64 m4)) q95 #[.int .i64 n0, .int .i64 n1, .int .i64 n2, .int .i64 n3, .int .i64 n4] 23) := Cl.only N139.out (only_set5 v128 q129 _ _ _ _ _) A147.out
  have N163 : Hid (Cl (((((v128.setCell ⟨q129, 0, none⟩ (.int .i64 m0)).setCell ⟨q129, 1, none⟩ (.int .i64 m1)).setCell ⟨q129, 2, none⟩ (.int .i64 m2)).setCell ⟨q129, 3, none⟩ (.int .i64 m3)).setCell ⟨q129, 4, none⟩ (.int .i64 m4)) q116 #[.int .i64 0, .int .i64 0, .int .i64 0, .int .i64 0, .int .i64 0] 23) := Cl.only N140.out (only_set5 v128 q129 _ _ _ _ _) A148.out
  go_upto_region 19 with fail
  generalize ((((v128.setCell ⟨q129, 0, none⟩ (.int .i64 m0)).setCell ⟨q129, 1, none⟩ (.int .i64 m1)).setCell ⟨q129, 2, none⟩ (.int .i64 m2)).setCell ⟨q129, 3, none⟩ (.int .i64 m3)).setCell ⟨q129, 4, none⟩ (.int .i64 m4) = v153 at *
  clear c149_0 c149_1 c149_2 c149_3 c149_4 c150_0 c150_1 c150_2 c150_3 c150_4 c151_0 c151_1 c151_2 c151_3 c151_4 g152_0 g152_1 g152_2 g152_3 g152_4
  obtain ⟨c164_0, c164_1, c164_2, c164_3, c164_4⟩ := N156.out.five
  obtain ⟨c165_0, c165_1, c165_2, c165_3, c165_4⟩ := N157.out.five
  obtain ⟨c166_0, c166_1, c166_2, c166_3, c166_4⟩ := N159.out.five
  obtain ⟨c167_0, c167_1, c167_2, c167_3, c167_4⟩ := N160.out.five
  obtain ⟨c168_0, c168_1, c168_2, c168_3, c168_4⟩ := N161.out.five
  obtain ⟨c169_0, c169_1, c169_2, c169_3, c169_4⟩ := N162.out.five
  obtain ⟨c170_0, c170_1, c170_2, c170_3, c170_4⟩ := N155.out.five
  go_wp2
  go_ret
  exact ⟨rfl, B154.out⟩

theorem newer_walk (a b : Rt) (s : ByteArray) (w : World) (T : Tab w) (_ : a.wf) (_ : b.wf) (hm : s.size ≤ maxLen) : Calls Tryd.prog 8 #[rtV a, rtV b, .string s] w fun e w' => e = .returned (.bool true) ∧ Below w.heap.size w w' := by
  by_cases h1 : 1000 < s.size
  · exact newer_long a b s w T hm h1
  · cases ha : a.ok
    · exact newer_no1 a b s w T hm h1 ha
    · cases hb : b.ok
      · exact newer_no2 a b s w T hm h1 ha hb
      · cases hd : decB s.data.toList
        · rcases Int.lt_trichotomy a.ep b.ep with h | h | h
          · exact newer_lt a b s w T hm h1 ha hb hd h
          · exact newer_eq a b s w T hm h1 ha hb hd h
          · exact newer_gt a b s w T hm h1 ha hb hd h
        · exact newer_no3 a b s w T hm h1 ha hb hd

end Go.Proofs.YtalljfckjkbieaaDoor

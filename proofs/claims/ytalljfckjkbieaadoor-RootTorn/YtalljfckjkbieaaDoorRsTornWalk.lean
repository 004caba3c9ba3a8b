/-
  The walk of the law RootTorn: torn or not: the one root, or the other one, or none.
-/
import Derived.Test.YtalljfckjkbieaaDoorRsWorks
import Derived.Test.YtalljfckjkbieaaDoorRsRef
import Derived.Deep.RegionHeld3
import Derived.Deep.DeepCutAuto
namespace Go.Proofs.YtalljfckjkbieaaDoor
open Go.RowKit
set_option linter.unusedVariables false

theorem torn_text (a b : Rt) (k : Nat) : (⟨(slotL b).toArray⟩ : ByteArray).extract 0 k ++ (⟨(slotL a).toArray⟩ : ByteArray).extract k 256 = ⟨((slotL b).take k ++ (slotL a).drop k).toArray⟩ := by
  apply ba_ext
  rw [ByteArray.data_append, Array.toList_append, Lib.extract_data, Lib.extract_data]
  have : ((slotL a).drop k).length ≤ 256 - k := by rw [List.length_drop, slotL_length]; exact Nat.le_refl _
  simp [List.take_of_length_le this]
theorem torn_length (a b : Rt) {k : Nat} (h : k ≤ 256) : ((slotL b).take k ++ (slotL a).drop k).length = 256 := by
  rw [List.length_append, List.length_take, List.length_drop, slotL_length, slotL_length]
  omega
theorem torn_small (a b : Rt) (k : Nat) : ((slotL b).take k ++ (slotL a).drop k).length ≤ maxLen := by
  rw [List.length_append, List.length_take, List.length_drop, slotL_length, slotL_length]
  unfold maxLen
  omega

set_option maxRecDepth 100000 in
set_option maxHeartbeats 2000000 in
theorem torn_no1 (a b : Rt) (cut : Int) (w : World) (T : Tab w) (ha : a.ok = false) : Calls Tryd.prog 5 #[rtV a, rtV b, .int .i64 cut] w fun e w' => e = .returned (.bool true) ∧ Below w.heap.size w w' := by
  have CW : Hid (∀ u, Tab u → Calls Tryd.prog 9 #[] u fun e w' => e = .returned (.bool true) ∧ Below u.heap.size u w') := works_any
  have TAB : Hid (Tab w) := T
  have E1 : Hid (∀ u, Tab u → Calls Tryd.prog 10 #[rtV a] u fun e w' => e = .returned (.tuple #[.string ⟨#[]⟩, .int .i64 1]) ∧ Below u.heap.size u w') := fun u hu => enc_not ha u hu
  have E2 : Hid (∀ u, Tab u → Calls Tryd.prog 10 #[rtV b] u fun e w' => e = .returned (.tuple #[.string ⟨(encS b).toArray⟩, .int .i64 (encE b)]) ∧ Below u.heap.size u w') := fun u hu => enc_any b u hu
  generalize (⟨(encS b).toArray⟩ : ByteArray) = sb at *
  generalize encE b = eb at *
  clear ha
  clear T
  obtain ⟨n0, n1, n2, n3, n4⟩ := a
  obtain ⟨m0, m1, m2, m3, m4⟩ := b
  unfold rtV at *
  (try unfold rt0 at *)
  dsimp only at *
  go_enter Tryd.func5, Tryd.ntmps5
  go_wp2_with fail
  have N4 : Hid (Cl ((w.alloc (.cells #[.int .i64 n0, .int .i64 n1, .int .i64 n2, .int .i64 n3, .int .i64 n4] 23)).alloc (.cells #[.int .i64 m0, .int .i64 m1, .int .i64 m2, .int .i64 m3, .int .i64 m4] 23)) w.heap.size #[.int .i64 n0, .int .i64 n1, .int .i64 n2, .int .i64 n3, .int .i64 n4] 23) := Cl.alloc (Cl.new _ _ _) _
  have N5 : Hid (Cl ((w.alloc (.cells #[.int .i64 n0, .int .i64 n1, .int .i64 n2, .int .i64 n3, .int .i64 n4] 23)).alloc (.cells #[.int .i64 m0, .int .i64 m1, .int .i64 m2, .int .i64 m3, .int .i64 m4] 23)) (w.heap.size + 1) #[.int .i64 m0, .int .i64 m1, .int .i64 m2, .int .i64 m3, .int .i64 m4] 23) := by
    have := Cl.new (w.alloc (.cells #[.int .i64 n0, .int .i64 n1, .int .i64 n2, .int .i64 n3, .int .i64 n4] 23)) #[.int .i64 m0, .int .i64 m1, .int .i64 m2, .int .i64 m3, .int .i64 m4] 23
    rw [show (w.alloc (.cells #[.int .i64 n0, .int .i64 n1, .int .i64 n2, .int .i64 n3, .int .i64 n4] 23)).heap.size = w.heap.size + 1 by simp] at this
    exact this
  have B3 : Hid (Below w.heap.size w ((w.alloc (.cells #[.int .i64 n0, .int .i64 n1, .int .i64 n2, .int .i64 n3, .int .i64 n4] 23)).alloc (.cells #[.int .i64 m0, .int .i64 m1, .int .i64 m2, .int .i64 m3, .int .i64 m4] 23))) := ((Below.refl _ _).alloc (Nat.le_refl _) _).alloc (by simp) _
  have L6 : Hid (w.heap.size ≤ w.heap.size) := Nat.le_refl _
  have L7 : Hid (w.heap.size ≤ w.heap.size + 1) := Nat.le_succ _
  generalize (w.alloc (.cells #[.int .i64 n0, .int .i64 n1, .int .i64 n2, .int .i64 n3, .int .i64 n4] 23)).alloc (.cells #[.int .i64 m0, .int .i64 m1, .int .i64 m2, .int .i64 m3, .int .i64 m4] 23) = v1 at *
  generalize w.heap.size + 1 = q2 at *
  refine Calls.mono (CW.out _ (TAB.out.below B3.out)) ?_
  rintro e v8 ⟨rfl, b9⟩
  have N11 : Hid (Cl v8 w.heap.size #[.int .i64 n0, .int .i64 n1, .int .i64 n2, .int .i64 n3, .int .i64 n4] 23) := Cl.on N4.out b9
  have N12 : Hid (Cl v8 q2 #[.int .i64 m0, .int .i64 m1, .int .i64 m2, .int .i64 m3, .int .i64 m4] 23) := Cl.on N5.out b9
  have B10 : Hid (Below w.heap.size w v8) := B3.out.trans (b9.mono B3.out.size)
  clear b9 N4 N5 B3
  obtain ⟨c13_0, c13_1, c13_2, c13_3, c13_4⟩ := N11.out.five
  go_wp2_with fail
  clear c13_0 c13_1 c13_2 c13_3 c13_4
  refine Calls.mono (E1.out _ (TAB.out.below B10.out)) ?_
  rintro e v14 ⟨rfl, b15⟩
  have N17 : Hid (Cl v14 w.heap.size #[.int .i64 n0, .int .i64 n1, .int .i64 n2, .int .i64 n3, .int .i64 n4] 23) := Cl.on N11.out b15
  have N18 : Hid (Cl v14 q2 #[.int .i64 m0, .int .i64 m1, .int .i64 m2, .int .i64 m3, .int .i64 m4] 23) := Cl.on N12.out b15
  have B16 : Hid (Below w.heap.size w v14) := B10.out.trans (b15.mono B10.out.size)
  clear b15 N11 N12 B10
  obtain ⟨c19_0, c19_1, c19_2, c19_3, c19_4⟩ := N18.out.five
  go_wp2_with fail
  clear c19_0 c19_1 c19_2 c19_3 c19_4
  refine Calls.mono (E2.out _ (TAB.out.below B16.out)) ?_
  rintro e v20 ⟨rfl, b21⟩
  have N23 : Hid (Cl v20 w.heap.size #[.int .i64 n0, .int .i64 n1, .int .i64 n2, .int .i64 n3, .int .i64 n4] 23) := Cl.on N17.out b21
  have N24 : Hid (Cl v20 q2 #[.int .i64 m0, .int .i64 m1, .int .i64 m2, .int .i64 m3, .int .i64 m4] 23) := Cl.on N18.out b21
  have B22 : Hid (Below w.heap.size w v20) := B16.out.trans (b21.mono B16.out.size)
  clear b21 N17 N18 B16
  go_wp2
  go_ret
  exact ⟨rfl, B22.out⟩

set_option maxRecDepth 100000 in
set_option maxHeartbeats 2000000 in
theorem torn_no2 (a b : Rt) (cut : Int) (w : World) (T : Tab w) (ha : a.ok = true) (hb : b.ok = false) : Calls Tryd.prog 5 #[rtV a, rtV b, .int .i64 cut] w fun e w' => e = .returned (.bool true) ∧ Below w.heap.size w w' := by
  have CW : Hid (∀ u, Tab u → Calls Tryd.prog 9 #[] u fun e w' => e = .returned (.bool true) ∧ Below u.heap.size u w') := works_any
  have TAB : Hid (Tab w) := T
  have E1 : Hid (∀ u, Tab u → Calls Tryd.prog 10 #[rtV a] u fun e w' => e = .returned (.tuple #[.string ⟨(slotL a).toArray⟩, .int .i64 0]) ∧ Below u.heap.size u w') := fun u hu => enc_yes ha u hu
  have E2 : Hid (∀ u, Tab u → Calls Tryd.prog 10 #[rtV b] u fun e w' => e = .returned (.tuple #[.string ⟨#[]⟩, .int .i64 1]) ∧ Below u.heap.size u w') := fun u hu => enc_not hb u hu
  generalize (⟨(slotL a).toArray⟩ : ByteArray) = sa at *
  clear ha hb
  clear T
  obtain ⟨n0, n1, n2, n3, n4⟩ := a
  obtain ⟨m0, m1, m2, m3, m4⟩ := b
  unfold rtV at *
  (try unfold rt0 at *)
  dsimp only at *
  go_enter Tryd.func5, Tryd.ntmps5
  go_wp2_with fail
  have N4 : Hid (Cl ((w.alloc (.cells #[.int .i64 n0, .int .i64 n1, .int .i64 n2, .int .i64 n3, .int .i64 n4] 23)).alloc (.cells #[.int .i64 m0, .int .i64 m1, .int .i64 m2, .int .i64 m3, .int .i64 m4] 23)) w.heap.size #[.int .i64 n0, .int .i64 n1, .int .i64 n2, .int .i64 n3, .int .i64 n4] 23) := Cl.alloc (Cl.new _ _ _) _
  have N5 : Hid (Cl ((w.alloc (.cells #[.int .i64 n0, .int .i64 n1, .int .i64 n2, .int .i64 n3, .int .i64 n4] 23)).alloc (.cells #[.int .i64 m0, .int .i64 m1, .int .i64 m2, .int .i64 m3, .int .i64 m4] 23)) (w.heap.size + 1) #[.int .i64 m0, .int .i64 m1, .int .i64 m2, .int .i64 m3, .int .i64 m4] 23) := by
    have := Cl.new (w.alloc (.cells #[.int .i64 n0, .int .i64 n1, .int .i64 n2, .int .i64 n3, .int .i64 n4] 23)) #[.int .i64 m0, .int .i64 m1, .int .i64 m2, .int .i64 m3, .int .i64 m4] 23
    rw [show (w.alloc (.cells #[.int .i64 n0, .int .i64 n1, .int .i64 n2, .int .i64 n3, .int .i64 n4] 23)).heap.size = w.heap.size + 1 by simp] at this
    exact this
  have B3 : Hid (Below w.heap.size w ((w.alloc (.cells #[.int .i64 n0, .int .i64 n1, .int .i64 n2, .int .i64 n3, .int .i64 n4] 23)).alloc (.cells #[.int .i64 m0, .int .i64 m1, .int .i64 m2, .int .i64 m3, .int .i64 m4] 23))) := ((Below.refl _ _).alloc (Nat.le_refl _) _).alloc (by simp) _
  have L6 : Hid (w.heap.size ≤ w.heap.size) := Nat.le_refl _
  have L7 : Hid (w.heap.size ≤ w.heap.size + 1) := Nat.le_succ _
  generalize (w.alloc (.cells #[.int .i64 n0, .int .i64 n1, .int .i64 n2, .int .i64 n3, .int .i64 n4] 23)).alloc (.cells #[.int .i64 m0, .int .i64 m1, .int .i64 m2, .int .i64 m3, .int .i64 m4] 23) = v1 at *
  generalize w.heap.size + 1 = q2 at *
  refine Calls.mono (CW.out _ (TAB.out.below B3.out)) ?_
  rintro e v8 ⟨rfl, b9⟩
  have N11 : Hid (Cl v8 w.heap.size #[.int .i64 n0, .int .i64 n1, .int .i64 n2, .int .i64 n3, .int .i64 n4] 23) := Cl.on N4.out b9
  have N12 : Hid (Cl v8 q2 #[.int .i64 m0, .int .i64 m1, .int .i64 m2, .int .i64 m3, .int .i64 m4] 23) := Cl.on N5.out b9
  have B10 : Hid (Below w.heap.size w v8) := B3.out.trans (b9.mono B3.out.size)
  clear b9 N4 N5 B3
  obtain ⟨c13_0, c13_1, c13_2, c13_3, c13_4⟩ := N11.out.five
  go_wp2_with fail
  clear c13_0 c13_1 c13_2 c13_3 c13_4
  refine Calls.mono (E1.out _ (TAB.out.below B10.out)) ?_
  rintro e v14 ⟨rfl, b15⟩
  have N17 : Hid (Cl v14 w.heap.size #[.int .i64 n0, .int .i64 n1, .int .i64 n2, .int .i64 n3, .int .i64 n4] 23) := Cl.on N11.out b15
  have N18 : Hid (Cl v14 q2 #[.int .i64 m0, .int .i64 m1, .int .i64 m2, .int .i64 m3, .int .i64 m4] 23) := Cl.on N12.out b15
  have B16 : Hid (Below w.heap.size w v14) := B10.out.trans (b15.mono B10.out.size)
  clear b15 N11 N12 B10
  obtain ⟨c19_0, c19_1, c19_2, c19_3, c19_4⟩ := N18.out.five
  go_wp2_with fail
  clear c19_0 c19_1 c19_2 c19_3 c19_4
  refine Calls.mono (E2.out _ (TAB.out.below B16.out)) ?_
  rintro e v20 ⟨rfl, b21⟩
  have N23 : Hid (Cl v20 w.heap.size #[.int .i64 n0, .int .i64 n1, .int .i64 n2, .int .i64 n3, .int .i64 n4] 23) := Cl.on N17.out b21
  have N24 : Hid (Cl v20 q2 #[.int .i64 m0, .int .i64 m1, .int .i64 m2, .int .i64 m3, .int .i64 m4] 23) := Cl.on N18.out b21
  have B22 : Hid (Below w.heap.size w v20) := B16.out.trans (b21.mono B16.out.size)
  clear b21 N17 N18 B16
  go_wp2
  go_ret
  exact ⟨rfl, B22.out⟩

set_option maxRecDepth 100000 in
set_option maxHeartbeats 2000000 in
theorem torn_same (a b : Rt) (cut : Int) (w : World) (T : Tab w) (ha : a.ok = true) (hb : b.ok = true) (he : a.ep = b.ep) : Calls Tryd.prog 5 #[rtV a, rtV b, .int .i64 cut] w fun e w' => e = .returned (.bool true) ∧ Below w.heap.size w w' := by
  have CW : Hid (∀ u, Tab u → Calls Tryd.prog 9 #[] u fun e w' => e = .returned (.bool true) ∧ Below u.heap.size u w') := works_any
  have TAB : Hid (Tab w) := T
  have E1 : Hid (∀ u, Tab u → Calls Tryd.prog 10 #[rtV a] u fun e w' => e = .returned (.tuple #[.string ⟨(slotL a).toArray⟩, .int .i64 0]) ∧ Below u.heap.size u w') := fun u hu => enc_yes ha u hu
  have E2 : Hid (∀ u, Tab u → Calls Tryd.prog 10 #[rtV b] u fun e w' => e = .returned (.tuple #[.string ⟨(slotL b).toArray⟩, .int .i64 0]) ∧ Below u.heap.size u w') := fun u hu => enc_yes hb u hu
  generalize (⟨(slotL a).toArray⟩ : ByteArray) = sa at *
  generalize (⟨(slotL b).toArray⟩ : ByteArray) = sb at *
  have hq : (a.ep == b.ep) = true := by rw [he]; exact beq_self_eq_true _
  clear ha hb he
  clear T
  obtain ⟨n0, n1, n2, n3, n4⟩ := a
  obtain ⟨m0, m1, m2, m3, m4⟩ := b
  unfold rtV at *
  (try unfold rt0 at *)
  dsimp only at *
  go_enter Tryd.func5, Tryd.ntmps5
  go_wp2_with fail
  have N4 : Hid (Cl ((w.alloc (.cells #[.int .i64 n0, .int .i64 n1, .int .i64 n2, .int .i64 n3, .int .i64 n4] 23)).alloc (.cells #[.int .i64 m0, .int .i64 m1, .int .i64 m2, .int .i64 m3, .int .i64 m4] 23)) w.heap.size #[.int .i64 n0, .int .i64 n1, .int .i64 n2, .int .i64 n3, .int .i64 n4] 23) := Cl.alloc (Cl.new _ _ _) _
  have N5 : Hid (Cl ((w.alloc (.cells #[.int .i64 n0, .int .i64 n1, .int .i64 n2, .int .i64 n3, .int .i64 n4] 23)).alloc (.cells #[.int .i64 m0, .int .i64 m1, .int .i64 m2, .int .i64 m3, .int .i64 m4] 23)) (w.heap.size + 1) #[.int .i64 m0, .int .i64 m1, .int .i64 m2, .int .i64 m3, .int .i64 m4] 23) := by
    have := Cl.new (w.alloc (.cells #[.int .i64 n0, .int .i64 n1, .int .i64 n2, .int .i64 n3, .int .i64 n4] 23)) #[.int .i64 m0, .int .i64 m1, .int .i64 m2, .int .i64 m3, .int .i64 m4] 23
    rw [show (w.alloc (.cells #[.int .i64 n0, .int .i64 n1, .int .i64 n2, .int .i64 n3, .int .i64 n4] 23)).heap.size = w.heap.size + 1 by simp] at this
    exact this
  have B3 : Hid (Below w.heap.size w ((w.alloc (.cells #[.int .i64 n0, .int .i64 n1, .int .i64 n2, .int .i64 n3, .int .i64 n4] 23)).alloc (.cells #[.int .i64 m0, .int .i64 m1, .int .i64 m2, .int .i64 m3, .int .i64 m4] 23))) := ((Below.refl _ _).alloc (Nat.le_refl _) _).alloc (by simp) _
  have L6 : Hid (w.heap.size ≤ w.heap.size) := Nat.le_refl _
  have L7 : Hid (w.heap.size ≤ w.heap.size + 1) := Nat.le_succ _
  generalize (w.alloc (.cells #[.int .i64 n0, .int .i64 n1, .int .i64 n2, .int .i64 n3, .int .i64 n4] 23)).alloc (.cells #[.int .i64 m0, .int .i64 m1, .int .i64 m2, .int .i64 m3, .int .i64 m4] 23) = v1 at *
  generalize w.heap.size + 1 = q2 at *
  refine Calls.mono (CW.out _ (TAB.out.below B3.out)) ?_
  rintro e v8 ⟨rfl, b9⟩
  have N11 : Hid (Cl v8 w.heap.size #[.int .i64 n0, .int .i64 n1, .int .i64 n2, .int .i64 n3, .int .i64 n4] 23) := Cl.on N4.out b9
  have N12 : Hid (Cl v8 q2 #[.int .i64 m0, .int .i64 m1, .int .i64 m2, .int .i64 m3, .int .i64 m4] 23) := Cl.on N5.out b9
  have B10 : Hid (Below w.heap.size w v8) := B3.out.trans (b9.mono B3.out.size)
  clear b9 N4 N5 B3
  obtain ⟨c13_0, c13_1, c13_2, c13_3, c13_4⟩ := N11.out.five
  go_wp2_with fail
  clear c13_0 c13_1 c13_2 c13_3 c13_4
  refine Calls.mono (E1.out _ (TAB.out.below B10.out)) ?_
  rintro e v14 ⟨rfl, b15⟩
  have N17 : Hid (Cl v14 w.heap.size #[.int .i64 n0, .int .i64 n1, .int .i64 n2, .int .i64 n3, .int .i64 n4] 23) := Cl.on N11.out b15
  have N18 : Hid (Cl v14 q2 #[.int .i64 m0, .int .i64 m1, .int .i64 m2, .int .i64 m3, .int .i64 m4] 23) := Cl.on N12.out b15
  have B16 : Hid (Below w.heap.size w v14) := B10.out.trans (b15.mono B10.out.size)
  clear b15 N11 N12 B10
  obtain ⟨c19_0, c19_1, c19_2, c19_3, c19_4⟩ := N18.out.five
  go_wp2_with fail
  clear c19_0 c19_1 c19_2 c19_3 c19_4
  refine Calls.mono (E2.out _ (TAB.out.below B16.out)) ?_
  rintro e v20 ⟨rfl, b21⟩
  have N23 : Hid (Cl v20 w.heap.size #[.int .i64 n0, .int .i64 n1, .int .i64 n2, .int .i64 n3, .int .i64 n4] 23) := Cl.on N17.out b21
  have N24 : Hid (Cl v20 q2 #[.int .i64 m0, .int .i64 m1, .int .i64 m2, .int .i64 m3, .int .i64 m4] 23) := Cl.on N18.out b21
  have B22 : Hid (Below w.heap.size w v20) := B16.out.trans (b21.mono B16.out.size)
  clear b21 N17 N18 B16
  obtain ⟨c25_0, c25_1, c25_2, c25_3, c25_4⟩ := N23.out.five
  obtain ⟨c26_0, c26_1, c26_2, c26_3, c26_4⟩ := N24.out.five
  go_wp2
  go_ret
  exact ⟨rfl, B22.out⟩

set_option maxRecDepth 100000 in
set_option maxHeartbeats 2000000 in
theorem torn_none (a b : Rt) (cut : Int) (w : World) (T : Tab w) (ha : a.ok = true) (hb : b.ok = true) (he : a.ep ≠ b.ep) (k : Nat) (hk2 : k ≤ 256) (hk : min (max cut 0) 256 = (k : Int)) (hz0 : k ≠ 0) (hz1 : k ≠ 256) (hd : decB ((slotL b).take k ++ (slotL a).drop k) = false) : Calls Tryd.prog 5 #[rtV a, rtV b, .int .i64 cut] w fun e w' => e = .returned (.bool true) ∧ Below w.heap.size w w' := by
  have CW : Hid (∀ u, Tab u → Calls Tryd.prog 9 #[] u fun e w' => e = .returned (.bool true) ∧ Below u.heap.size u w') := works_any
  have TAB : Hid (Tab w) := T
  have E1 : Hid (∀ u, Tab u → Calls Tryd.prog 10 #[rtV a] u fun e w' => e = .returned (.tuple #[.string ⟨(slotL a).toArray⟩, .int .i64 0]) ∧ Below u.heap.size u w') := fun u hu => enc_yes ha u hu
  have E2 : Hid (∀ u, Tab u → Calls Tryd.prog 10 #[rtV b] u fun e w' => e = .returned (.tuple #[.string ⟨(slotL b).toArray⟩, .int .i64 0]) ∧ Below u.heap.size u w') := fun u hu => enc_yes hb u hu
  have hq : (a.ep == b.ep) = false := beq_eq_false_iff_ne.2 he
  have hq2 : (b.ep == a.ep) = false := beq_eq_false_iff_ne.2 (Ne.symm he)
  have hza : (⟨(slotL a).toArray⟩ : ByteArray).size = 256 := by rw [ba_size, slotL_length]
  have hzb : (⟨(slotL b).toArray⟩ : ByteArray).size = 256 := by rw [ba_size, slotL_length]
  have D1 : Hid (∀ u, Tab u → Calls Tryd.prog 12 #[.string ⟨(slotL a).toArray⟩] u fun e w' => e = .returned (.tuple #[rtV a, .bool true]) ∧ Below u.heap.size u w') := fun u hu => dec_to (slotL a) (slot_small a) a true (decR_slot ha) (decB_slot ha) u hu
  have D2 : Hid (∀ u, Tab u → Calls Tryd.prog 12 #[.string ⟨(slotL b).toArray⟩] u fun e w' => e = .returned (.tuple #[rtV b, .bool true]) ∧ Below u.heap.size u w') := fun u hu => dec_to (slotL b) (slot_small b) b true (decR_slot hb) (decB_slot hb) u hu
  have hX := torn_text a b k
  have DX : Hid (∀ u, Tab u → Calls Tryd.prog 12 #[.string ⟨((slotL b).take k ++ (slotL a).drop k).toArray⟩] u fun e w' => e = .returned (.tuple #[rtV rt0, .bool false]) ∧ Below u.heap.size u w') := fun u hu => dec_to _ (torn_small a b k) rt0 false (decR_no hd) hd u hu
  have hXs : (⟨((slotL b).take k ++ (slotL a).drop k).toArray⟩ : ByteArray).size = 256 := by rw [ba_size]; exact torn_length a b hk2
  generalize (⟨((slotL b).take k ++ (slotL a).drop k).toArray⟩ : ByteArray) = X at *
  have g0 : ((k : Int) == 0) = false := by exact beq_eq_false_iff_ne.2 (by omega)
  have g1 : ((k : Int) == 256) = false := by exact beq_eq_false_iff_ne.2 (by omega)
  have hk0 : (0 : Int) ≤ (k : Int) := by omega
  have hk1 : (k : Int) ≤ 256 := by omega
  have hcc : ¬ 9223372036854775807 < min k 256 + (256 - k) := by omega
  generalize (⟨(slotL a).toArray⟩ : ByteArray) = sa at *
  generalize (⟨(slotL b).toArray⟩ : ByteArray) = sb at *
  clear ha hb he hz0 hz1 hd
  clear T
  obtain ⟨n0, n1, n2, n3, n4⟩ := a
  obtain ⟨m0, m1, m2, m3, m4⟩ := b
  unfold rtV at *
  (try unfold rt0 at *)
  dsimp only at *
  go_enter Tryd.func5, Tryd.ntmps5
  go_wp2_with fail
  have N4 : Hid (Cl ((w.alloc (.cells #[.int .i64 n0, .int .i64 n1, .int .i64 n2, .int .i64 n3, .int .i64 n4] 23)).alloc (.cells #[.int .i64 m0, .int .i64 m1, .int .i64 m2, .int .i64 m3, .int .i64 m4] 23)) w.heap.size #[.int .i64 n0, .int .i64 n1, .int .i64 n2, .int .i64 n3, .int .i64 n4] 23) := Cl.alloc (Cl.new _ _ _) _
  have N5 : Hid (Cl ((w.alloc (.cells #[.int .i64 n0, .int .i64 n1, .int .i64 n2, .int .i64 n3, .int .i64 n4] 23)).alloc (.cells #[.int .i64 m0, .int .i64 m1, .int .i64 m2, .int .i64 m3, .int .i64 m4] 23)) (w.heap.size + 1) #[.int .i64 m0, .int .i64 m1, .int .i64 m2, .int .i64 m3, .int .i64 m4] 23) := by
    have := Cl.new (w.alloc (.cells #[.int .i64 n0, .int .i64 n1, .int .i64 n2, .int .i64 n3, .int .i64 n4] 23)) #[.int .i64 m0, .int .i64 m1, .int .i64 m2, .int .i64 m3, .int .i64 m4] 23
    rw [show (w.alloc (.cells #[.int .i64 n0, .int .i64 n1, .int .i64 n2, .int .i64 n3, .int .i64 n4] 23)).heap.size = w.heap.size + 1 by simp] at this
    exact this
  have B3 : Hid (Below w.heap.size w ((w.alloc (.cells #[.int .i64 n0, .int .i64 n1, .int .i64 n2, .int .i64 n3, .int .i64 n4] 23)).alloc (.cells #[.int .i64 m0, .int .i64 m1, .int .i64 m2, .int .i64 m3, .int .i64 m4] 23))) := ((Below.refl _ _).alloc (Nat.le_refl _) _).alloc (by simp) _
  have L6 : Hid (w.heap.size ≤ w.heap.size) := Nat.le_refl _
  have L7 : Hid (w.heap.size ≤ w.heap.size + 1) := Nat.le_succ _
  generalize (w.alloc (.cells #[.int .i64 n0, .int .i64 n1, .int .i64 n2, .int .i64 n3, .int .i64 n4] 23)).alloc (.cells #[.int .i64 m0, .int .i64 m1, .int .i64 m2, .int .i64 m3, .int .i64 m4] 23) = v1 at *
  generalize w.heap.size + 1 = q2 at *
  refine Calls.mono (CW.out _ (TAB.out.below B3.out)) ?_
  rintro e v8 ⟨rfl, b9⟩
  have N11 : Hid (Cl v8 w.heap.size #[.int .i64 n0, .int .i64 n1, .int .i64 n2, .int .i64 n3, .int .i64 n4] 23) := Cl.on N4.out b9
  have N12 : Hid (Cl v8 q2 #[.int .i64 m0, .int .i64 m1, .int .i64 m2, .int .i64 m3, .int .i64 m4] 23) := Cl.on N5.out b9
  have B10 : Hid (Below w.heap.size w v8) := B3.out.trans (b9.mono B3.out.size)
  clear b9 N4 N5 B3
  obtain ⟨c13_0, c13_1, c13_2, c13_3, c13_4⟩ := N11.out.five
  go_wp2_with fail
  clear c13_0 c13_1 c13_2 c13_3 c13_4
  refine Calls.mono (E1.out _ (TAB.out.below B10.out)) ?_
  rintro e v14 ⟨rfl, b15⟩
  have N17 : Hid (Cl v14 w.heap.size #[.int .i64 n0, .int .i64 n1, .int .i64 n2, .int .i64 n3, .int .i64 n4] 23) := Cl.on N11.out b15
  have N18 : Hid (Cl v14 q2 #[.int .i64 m0, .int .i64 m1, .int .i64 m2, .int .i64 m3, .int .i64 m4] 23) := Cl.on N12.out b15
  have B16 : Hid (Below w.heap.size w v14) := B10.out.trans (b15.mono B10.out.size)
  clear b15 N11 N12 B10
  obtain ⟨c19_0, c19_1, c19_2, c19_3, c19_4⟩ := N18.out.five
  go_wp2_with fail
  clear c19_0 c19_1 c19_2 c19_3 c19_4
  refine Calls.mono (E2.out _ (TAB.out.below B16.out)) ?_
  rintro e v20 ⟨rfl, b21⟩
  have N23 : Hid (Cl v20 w.heap.size #[.int .i64 n0, .int .i64 n1, .int .i64 n2, .int .i64 n3, .int .i64 n4] 23) := Cl.on N17.out b21
  have N24 : Hid (Cl v20 q2 #[.int .i64 m0, .int .i64 m1, .int .i64 m2, .int .i64 m3, .int .i64 m4] 23) := Cl.on N18.out b21
  have B22 : Hid (Below w.heap.size w v20) := B16.out.trans (b21.mono B16.out.size)
  clear b21 N17 N18 B16
  obtain ⟨c25_0, c25_1, c25_2, c25_3, c25_4⟩ := N23.out.five
  obtain ⟨c26_0, c26_1, c26_2, c26_3, c26_4⟩ := N24.out.five
  go_upto_region 11 with fail
  clear c25_0 c25_1 c25_2 c25_3 c25_4 c26_0 c26_1 c26_2 c26_3 c26_4
  go_cut [13, 14] (fun t13 t14 wx => ∃ q : Nat, t13 = .pointer (some ⟨q, 0, none⟩) ∧ t14 = .bool false ∧ Hid (Cl wx q #[.int .i64 0, .int .i64 0, .int .i64 0, .int .i64 0, .int .i64 0] 23 ∧ Cl wx w.heap.size #[.int .i64 n0, .int .i64 n1, .int .i64 n2, .int .i64 n3, .int .i64 n4] 23 ∧ Cl wx q2 #[.int .i64 m0, .int .i64 m1, .int .i64 m2, .int .i64 m3, .int .i64 m4] 23 ∧ Below w.heap.size w wx))
  case first =>
    have TA : Hid (Tab v20.drew) := TAB.out.below B22.out.drew
    have TB : Hid (Tab (v20.alloc (.cells #[.int .i64 0, .int .i64 0, .int .i64 0, .int .i64 0, .int .i64 0] 23)).drew) := TAB.out.below (B22.out.alloc B22.out.size _).drew
    have BA : Hid (Below w.heap.size w v20.drew) := B22.out.drew
    have BB : Hid (Below w.heap.size w (v20.alloc (.cells #[.int .i64 0, .int .i64 0, .int .i64 0, .int .i64 0, .int .i64 0] 23)).drew) := (B22.out.alloc B22.out.size _).drew
    have ZB : Hid (Cl (v20.alloc (.cells #[.int .i64 0, .int .i64 0, .int .i64 0, .int .i64 0, .int .i64 0] 23)).drew v20.heap.size #[.int .i64 0, .int .i64 0, .int .i64 0, .int .i64 0, .int .i64 0] 23) := Cl.new v20 _ _
    have Aa : Hid (Cl v20.drew w.heap.size #[.int .i64 n0, .int .i64 n1, .int .i64 n2, .int .i64 n3, .int .i64 n4] 23) := N23.out
    have Ba : Hid (Cl (v20.alloc (.cells #[.int .i64 0, .int .i64 0, .int .i64 0, .int .i64 0, .int .i64 0] 23)).drew w.heap.size #[.int .i64 n0, .int .i64 n1, .int .i64 n2, .int .i64 n3, .int .i64 n4] 23) := Cl.alloc N23.out _
    have Xa : Hid (w.heap.size ≠ v20.heap.size) := Nat.ne_of_lt (Cl.lt N23.out)
    have Ab : Hid (Cl v20.drew q2 #[.int .i64 m0, .int .i64 m1, .int .i64 m2, .int .i64 m3, .int .i64 m4] 23) := N24.out
    have Bb : Hid (Cl (v20.alloc (.cells #[.int .i64 0, .int .i64 0, .int .i64 0, .int .i64 0, .int .i64 0] 23)).drew q2 #[.int .i64 m0, .int .i64 m1, .int .i64 m2, .int .i64 m3, .int .i64 m4] 23) := Cl.alloc N24.out _
    have Xb : Hid (q2 ≠ v20.heap.size) := Nat.ne_of_lt (Cl.lt N24.out)
    go_region_held3 (fun _ => True) (trivial) ((first | (go_at_call_of 12 (Value.string X); refine Calls.mono (DX.out v20.drew TA.out) ?_; rintro e u ⟨rfl, bu⟩; have UB : Hid (Below w.heap.size w u) := BA.out.trans (bu.mono BA.out.size); have Ua : Hid (Cl u w.heap.size #[.int .i64 n0, .int .i64 n1, .int .i64 n2, .int .i64 n3, .int .i64 n4] 23) := Cl.on Aa.out bu; have Ub : Hid (Cl u q2 #[.int .i64 m0, .int .i64 m1, .int .i64 m2, .int .i64 m3, .int .i64 m4] 23) := Cl.on Ab.out bu; clear bu) | (go_at_call_of 12 (Value.string X); refine Calls.mono (DX.out (v20.alloc (.cells #[.int .i64 0, .int .i64 0, .int .i64 0, .int .i64 0, .int .i64 0] 23)).drew TB.out) ?_; rintro e u ⟨rfl, bu⟩; have UB : Hid (Below w.heap.size w u) := BB.out.trans (bu.mono BB.out.size); have Ua : Hid (Cl u w.heap.size #[.int .i64 n0, .int .i64 n1, .int .i64 n2, .int .i64 n3, .int .i64 n4] 23) := Cl.on Ba.out bu; have Ub : Hid (Cl u q2 #[.int .i64 m0, .int .i64 m1, .int .i64 m2, .int .i64 m3, .int .i64 m4] 23) := Cl.on Bb.out bu; have Uz : Hid (Cl u v20.heap.size #[.int .i64 0, .int .i64 0, .int .i64 0, .int .i64 0, .int .i64 0] 23) := Cl.on ZB.out bu; clear bu; obtain ⟨y0, y1, y2, y3, y4⟩ := Uz.out.five; have f0 := Uz.out.frozen 0; have f1 := Uz.out.frozen 1; have f2 := Uz.out.frozen 2; have f3 := Uz.out.frozen 3; have f4 := Uz.out.frozen 4)))
    all_goals (go_wp2_with fail; go_meet)
    · exact ⟨_, rfl, rfl, Cl.new u _ _, Cl.alloc Ua.out _, Cl.alloc Ub.out _, UB.out.alloc UB.out.size _⟩
    · exact ⟨_, rfl, rfl, Cl.set5 Uz.out _ _ _ _ _, Cl.only Ua.out (only_set5 u _ _ _ _ _ _) Xa.out, Cl.only Ub.out (only_set5 u _ _ _ _ _ _) Xb.out, UB.out.trans ((only_set5 u _ _ _ _ _ _).below B22.out.size)⟩
  case rest =>
  obtain ⟨q, rfl, rfl, H⟩ := hcut
  have Nr : Hid (Cl wc q #[.int .i64 0, .int .i64 0, .int .i64 0, .int .i64 0, .int .i64 0] 23) := H.out.1
  have Na : Hid (Cl wc w.heap.size #[.int .i64 n0, .int .i64 n1, .int .i64 n2, .int .i64 n3, .int .i64 n4] 23) := H.out.2.1
  have Nb : Hid (Cl wc q2 #[.int .i64 m0, .int .i64 m1, .int .i64 m2, .int .i64 m3, .int .i64 m4] 23) := H.out.2.2.1
  have Bc : Hid (Below w.heap.size w wc) := H.out.2.2.2
  clear H N23 N24 B22
  go_wp2_with fail
  refine Calls.mono (D1.out _ (TAB.out.below Bc.out)) ?_
  rintro e v27 ⟨rfl, b28⟩
  have N30 : Hid (Cl v27 w.heap.size #[.int .i64 n0, .int .i64 n1, .int .i64 n2, .int .i64 n3, .int .i64 n4] 23) := Cl.on Na.out b28
  have N31 : Hid (Cl v27 q2 #[.int .i64 m0, .int .i64 m1, .int .i64 m2, .int .i64 m3, .int .i64 m4] 23) := Cl.on Nb.out b28
  have N32 : Hid (Cl v27 q #[.int .i64 0, .int .i64 0, .int .i64 0, .int .i64 0, .int .i64 0] 23) := Cl.on Nr.out b28
  have B29 : Hid (Below w.heap.size w v27) := Bc.out.trans (b28.mono Bc.out.size)
  clear b28 Na Nb Nr Bc
  go_wp2_with fail
  have N36 : Hid (Cl (v27.alloc (.cells #[.int .i64 n0, .int .i64 n1, .int .i64 n2, .int .i64 n3, .int .i64 n4] 23)) v27.heap.size #[.int .i64 n0, .int .i64 n1, .int .i64 n2, .int .i64 n3, .int .i64 n4] 23) := Cl.new v27 #[.int .i64 n0, .int .i64 n1, .int .i64 n2, .int .i64 n3, .int .i64 n4] 23
  have B35 : Hid (Below w.heap.size w (v27.alloc (.cells #[.int .i64 n0, .int .i64 n1, .int .i64 n2, .int .i64 n3, .int .i64 n4] 23))) := B29.out.alloc B29.out.size _
  have L37 : Hid (w.heap.size ≤ v27.heap.size) := B29.out.size
  have N38 : Hid (Cl (v27.alloc (.cells #[.int .i64 n0, .int .i64 n1, .int .i64 n2, .int .i64 n3, .int .i64 n4] 23)) w.heap.size #[.int .i64 n0, .int .i64 n1, .int .i64 n2, .int .i64 n3, .int .i64 n4] 23) := Cl.alloc N30.out _
  have N39 : Hid (Cl (v27.alloc (.cells #[.int .i64 n0, .int .i64 n1, .int .i64 n2, .int .i64 n3, .int .i64 n4] 23)) q2 #[.int .i64 m0, .int .i64 m1, .int .i64 m2, .int .i64 m3, .int .i64 m4] 23) := Cl.alloc N31.out _
  have N40 : Hid (Cl (v27.alloc (.cells #[.int .i64 n0, .int .i64 n1, .int .i64 n2, .int .i64 n3, .int .i64 n4] 23)) q #[.int .i64 0, .int .i64 0, .int .i64 0, .int .i64 0, .int .i64 0] 23) := Cl.alloc N32.out _
  clear N30 N31 N32 B29
  generalize v27.alloc (.cells #[.int .i64 n0, .int .i64 n1, .int .i64 n2, .int .i64 n3, .int .i64 n4] 23) = v33 at *
  generalize v27.heap.size = q34 at *
  refine Calls.mono (D2.out _ (TAB.out.below B35.out)) ?_
  rintro e v41 ⟨rfl, b42⟩
  have N44 : Hid (Cl v41 w.heap.size #[.int .i64 n0, .int .i64 n1, .int .i64 n2, .int .i64 n3, .int .i64 n4] 23) := Cl.on N38.out b42
  have N45 : Hid (Cl v41 q2 #[.int .i64 m0, .int .i64 m1, .int .i64 m2, .int .i64 m3, .int .i64 m4] 23) := Cl.on N39.out b42
  have N46 : Hid (Cl v41 q #[.int .i64 0, .int .i64 0, .int .i64 0, .int .i64 0, .int .i64 0] 23) := Cl.on N40.out b42
  have N47 : Hid (Cl v41 q34 #[.int .i64 n0, .int .i64 n1, .int .i64 n2, .int .i64 n3, .int .i64 n4] 23) := Cl.on N36.out b42
  have B43 : Hid (Below w.heap.size w v41) := B35.out.trans (b42.mono B35.out.size)
  clear b42 N38 N39 N40 N36 B35
  go_upto_region 14 with fail
  have N51 : Hid (Cl (v41.alloc (.cells #[.int .i64 m0, .int .i64 m1, .int .i64 m2, .int .i64 m3, .int .i64 m4] 23)) v41.heap.size #[.int .i64 m0, .int .i64 m1, .int .i64 m2, .int .i64 m3, .int .i64 m4] 23) := Cl.new v41 #[.int .i64 m0, .int .i64 m1, .int .i64 m2, .int .i64 m3, .int .i64 m4] 23
  have B50 : Hid (Below w.heap.size w (v41.alloc (.cells #[.int .i64 m0, .int .i64 m1, .int .i64 m2, .int .i64 m3, .int .i64 m4] 23))) := B43.out.alloc B43.out.size _
  have L52 : Hid (w.heap.size ≤ v41.heap.size) := B43.out.size
  have N53 : Hid (Cl (v41.alloc (.cells #[.int .i64 m0, .int .i64 m1, .int .i64 m2, .int .i64 m3, .int .i64 m4] 23)) w.heap.size #[.int .i64 n0, .int .i64 n1, .int .i64 n2, .int .i64 n3, .int .i64 n4] 23) := Cl.alloc N44.out _
  have N54 : Hid (Cl (v41.alloc (.cells #[.int .i64 m0, .int .i64 m1, .int .i64 m2, .int .i64 m3, .int .i64 m4] 23)) q2 #[.int .i64 m0, .int .i64 m1, .int .i64 m2, .int .i64 m3, .int .i64 m4] 23) := Cl.alloc N45.out _
  have N55 : Hid (Cl (v41.alloc (.cells #[.int .i64 m0, .int .i64 m1, .int .i64 m2, .int .i64 m3, .int .i64 m4] 23)) q #[.int .i64 0, .int .i64 0, .int .i64 0, .int .i64 0, .int .i64 0] 23) := Cl.alloc N46.out _
  have N56 : Hid (Cl (v41.alloc (.cells #[.int .i64 m0, .int .i64 m1, .int .i64 m2, .int .i64 m3, .int .i64 m4] 23)) q34 #[.int .i64 n0, .int .i64 n1, .int .i64 n2, .int .i64 n3, .int .i64 n4] 23) := Cl.alloc N47.out _
  clear N44 N45 N46 N47 B43
  generalize v41.alloc (.cells #[.int .i64 m0, .int .i64 m1, .int .i64 m2, .int .i64 m3, .int .i64 m4] 23) = v48 at *
  generalize v41.heap.size = q49 at *
  obtain ⟨c57_0, c57_1, c57_2, c57_3, c57_4⟩ := N53.out.five
  obtain ⟨c58_0, c58_1, c58_2, c58_3, c58_4⟩ := N54.out.five
  obtain ⟨c59_0, c59_1, c59_2, c59_3, c59_4⟩ := N55.out.five
  obtain ⟨c60_0, c60_1, c60_2, c60_3, c60_4⟩ := N56.out.five
  obtain ⟨c61_0, c61_1, c61_2, c61_3, c61_4⟩ := N51.out.five
  go_wp2
  go_ret
  exact ⟨rfl, B50.out⟩

set_option maxRecDepth 100000 in
set_option maxHeartbeats 2000000 in
theorem torn_oldm (a b : Rt) (cut : Int) (w : World) (T : Tab w) (ha : a.ok = true) (hb : b.ok = true) (he : a.ep ≠ b.ep) (k : Nat) (hk2 : k ≤ 256) (hk : min (max cut 0) 256 = (k : Int)) (hz0 : k ≠ 0) (hz1 : k ≠ 256) (hd : decB ((slotL b).take k ++ (slotL a).drop k) = true) (hr : decR ((slotL b).take k ++ (slotL a).drop k) = a) : Calls Tryd.prog 5 #[rtV a, rtV b, .int .i64 cut] w fun e w' => e = .returned (.bool true) ∧ Below w.heap.size w w' := by
  have CW : Hid (∀ u, Tab u → Calls Tryd.prog 9 #[] u fun e w' => e = .returned (.bool true) ∧ Below u.heap.size u w') := works_any
  have TAB : Hid (Tab w) := T
  have E1 : Hid (∀ u, Tab u → Calls Tryd.prog 10 #[rtV a] u fun e w' => e = .returned (.tuple #[.string ⟨(slotL a).toArray⟩, .int .i64 0]) ∧ Below u.heap.size u w') := fun u hu => enc_yes ha u hu
  have E2 : Hid (∀ u, Tab u → Calls Tryd.prog 10 #[rtV b] u fun e w' => e = .returned (.tuple #[.string ⟨(slotL b).toArray⟩, .int .i64 0]) ∧ Below u.heap.size u w') := fun u hu => enc_yes hb u hu
  have hq : (a.ep == b.ep) = false := beq_eq_false_iff_ne.2 he
  have hq2 : (b.ep == a.ep) = false := beq_eq_false_iff_ne.2 (Ne.symm he)
  have hza : (⟨(slotL a).toArray⟩ : ByteArray).size = 256 := by rw [ba_size, slotL_length]
  have hzb : (⟨(slotL b).toArray⟩ : ByteArray).size = 256 := by rw [ba_size, slotL_length]
  have D1 : Hid (∀ u, Tab u → Calls Tryd.prog 12 #[.string ⟨(slotL a).toArray⟩] u fun e w' => e = .returned (.tuple #[rtV a, .bool true]) ∧ Below u.heap.size u w') := fun u hu => dec_to (slotL a) (slot_small a) a true (decR_slot ha) (decB_slot ha) u hu
  have D2 : Hid (∀ u, Tab u → Calls Tryd.prog 12 #[.string ⟨(slotL b).toArray⟩] u fun e w' => e = .returned (.tuple #[rtV b, .bool true]) ∧ Below u.heap.size u w') := fun u hu => dec_to (slotL b) (slot_small b) b true (decR_slot hb) (decB_slot hb) u hu
  have hX := torn_text a b k
  have DX : Hid (∀ u, Tab u → Calls Tryd.prog 12 #[.string ⟨((slotL b).take k ++ (slotL a).drop k).toArray⟩] u fun e w' => e = .returned (.tuple #[rtV a, .bool true]) ∧ Below u.heap.size u w') := fun u hu => dec_to _ (torn_small a b k) a true hr hd u hu
  have hXs : (⟨((slotL b).take k ++ (slotL a).drop k).toArray⟩ : ByteArray).size = 256 := by rw [ba_size]; exact torn_length a b hk2
  generalize (⟨((slotL b).take k ++ (slotL a).drop k).toArray⟩ : ByteArray) = X at *
  have g0 : ((k : Int) == 0) = false := by exact beq_eq_false_iff_ne.2 (by omega)
  have g1 : ((k : Int) == 256) = false := by exact beq_eq_false_iff_ne.2 (by omega)
  have hk0 : (0 : Int) ≤ (k : Int) := by omega
  have hk1 : (k : Int) ≤ 256 := by omega
  have hcc : ¬ 9223372036854775807 < min k 256 + (256 - k) := by omega
  generalize (⟨(slotL a).toArray⟩ : ByteArray) = sa at *
  generalize (⟨(slotL b).toArray⟩ : ByteArray) = sb at *
  clear ha hb he hz0 hz1 hd hr
  clear T
  obtain ⟨n0, n1, n2, n3, n4⟩ := a
  obtain ⟨m0, m1, m2, m3, m4⟩ := b
  unfold rtV at *
  (try unfold rt0 at *)
  dsimp only at *
  go_enter Tryd.func5, Tryd.ntmps5
  go_wp2_with fail
  have N4 : Hid (Cl ((w.alloc (.cells #[.int .i64 n0, .int .i64 n1, .int .i64 n2, .int .i64 n3, .int .i64 n4] 23)).alloc (.cells #[.int .i64 m0, .int .i64 m1, .int .i64 m2, .int .i64 m3, .int .i64 m4] 23)) w.heap.size #[.int .i64 n0, .int .i64 n1, .int .i64 n2, .int .i64 n3, .int .i64 n4] 23) := Cl.alloc (Cl.new _ _ _) _
  have N5 : Hid (Cl ((w.alloc (.cells #[.int .i64 n0, .int .i64 n1, .int .i64 n2, .int .i64 n3, .int .i64 n4] 23)).alloc (.cells #[.int .i64 m0, .int .i64 m1, .int .i64 m2, .int .i64 m3, .int .i64 m4] 23)) (w.heap.size + 1) #[.int .i64 m0, .int .i64 m1, .int .i64 m2, .int .i64 m3, .int .i64 m4] 23) := by
    have := Cl.new (w.alloc (.cells #[.int .i64 n0, .int .i64 n1, .int .i64 n2, .int .i64 n3, .int .i64 n4] 23)) #[.int .i64 m0, .int .i64 m1, .int .i64 m2, .int .i64 m3, .int .i64 m4] 23
    rw [show (w.alloc (.cells #[.int .i64 n0, .int .i64 n1, .int .i64 n2, .int .i64 n3, .int .i64 n4] 23)).heap.size = w.heap.size + 1 by simp] at this
    exact this
  have B3 : Hid (Below w.heap.size w ((w.alloc (.cells #[.int .i64 n0, .int .i64 n1, .int .i64 n2, .int .i64 n3, .int .i64 n4] 23)).alloc (.cells #[.int .i64 m0, .int .i64 m1, .int .i64 m2, .int .i64 m3, .int .i64 m4] 23))) := ((Below.refl _ _).alloc (Nat.le_refl _) _).alloc (by simp) _
  have L6 : Hid (w.heap.size ≤ w.heap.size) := Nat.le_refl _
  have L7 : Hid (w.heap.size ≤ w.heap.size + 1) := Nat.le_succ _
  generalize (w.alloc (.cells #[.int .i64 n0, .int .i64 n1, .int .i64 n2, .int .i64 n3, .int .i64 n4] 23)).alloc (.cells #[.int .i64 m0, .int .i64 m1, .int .i64 m2, .int .i64 m3, .int .i64 m4] 23) = v1 at *
  generalize w.heap.size + 1 = q2 at *
  refine Calls.mono (CW.out _ (TAB.out.below B3.out)) ?_
  rintro e v8 ⟨rfl, b9⟩
  have N11 : Hid (Cl v8 w.heap.size #[.int .i64 n0, .int .i64 n1, .int .i64 n2, .int .i64 n3, .int .i64 n4] 23) := Cl.on N4.out b9
  have N12 : Hid (Cl v8 q2 #[.int .i64 m0, .int .i64 m1, .int .i64 m2, .int .i64 m3, .int .i64 m4] 23) := Cl.on N5.out b9
  have B10 : Hid (Below w.heap.size w v8) := B3.out.trans (b9.mono B3.out.size)
  clear b9 N4 N5 B3
  obtain ⟨c13_0, c13_1, c13_2, c13_3, c13_4⟩ := N11.out.five
  go_wp2_with fail
  clear c13_0 c13_1 c13_2 c13_3 c13_4
  refine Calls.mono (E1.out _ (TAB.out.below B10.out)) ?_
  rintro e v14 ⟨rfl, b15⟩
  have N17 : Hid (Cl v14 w.heap.size #[.int .i64 n0, .int .i64 n1, .int .i64 n2, .int .i64 n3, .int .i64 n4] 23) := Cl.on N11.out b15
  have N18 : Hid (Cl v14 q2 #[.int .i64 m0, .int .i64 m1, .int .i64 m2, .int .i64 m3, .int .i64 m4] 23) := Cl.on N12.out b15
  have B16 : Hid (Below w.heap.size w v14) := B10.out.trans (b15.mono B10.out.size)
  clear b15 N11 N12 B10
  obtain ⟨c19_0, c19_1, c19_2, c19_3, c19_4⟩ := N18.out.five
  go_wp2_with fail
  clear c19_0 c19_1 c19_2 c19_3 c19_4
  refine Calls.mono (E2.out _ (TAB.out.below B16.out)) ?_
  rintro e v20 ⟨rfl, b21⟩
  have N23 : Hid (Cl v20 w.heap.size #[.int .i64 n0, .int .i64 n1, .int .i64 n2, .int .i64 n3, .int .i64 n4] 23) := Cl.on N17.out b21
  have N24 : Hid (Cl v20 q2 #[.int .i64 m0, .int .i64 m1, .int .i64 m2, .int .i64 m3, .int .i64 m4] 23) := Cl.on N18.out b21
  have B22 : Hid (Below w.heap.size w v20) := B16.out.trans (b21.mono B16.out.size)
  clear b21 N17 N18 B16
  obtain ⟨c25_0, c25_1, c25_2, c25_3, c25_4⟩ := N23.out.five
  obtain ⟨c26_0, c26_1, c26_2, c26_3, c26_4⟩ := N24.out.five
  go_upto_region 11 with fail
  clear c25_0 c25_1 c25_2 c25_3 c25_4 c26_0 c26_1 c26_2 c26_3 c26_4
  go_cut [13, 14] (fun t13 t14 wx => ∃ q : Nat, t13 = .pointer (some ⟨q, 0, none⟩) ∧ t14 = .bool true ∧ Hid (Cl wx q #[.int .i64 n0, .int .i64 n1, .int .i64 n2, .int .i64 n3, .int .i64 n4] 23 ∧ Cl wx w.heap.size #[.int .i64 n0, .int .i64 n1, .int .i64 n2, .int .i64 n3, .int .i64 n4] 23 ∧ Cl wx q2 #[.int .i64 m0, .int .i64 m1, .int .i64 m2, .int .i64 m3, .int .i64 m4] 23 ∧ Below w.heap.size w wx))
  case first =>
    have TA : Hid (Tab v20.drew) := TAB.out.below B22.out.drew
    have TB : Hid (Tab (v20.alloc (.cells #[.int .i64 0, .int .i64 0, .int .i64 0, .int .i64 0, .int .i64 0] 23)).drew) := TAB.out.below (B22.out.alloc B22.out.size _).drew
    have BA : Hid (Below w.heap.size w v20.drew) := B22.out.drew
    have BB : Hid (Below w.heap.size w (v20.alloc (.cells #[.int .i64 0, .int .i64 0, .int .i64 0, .int .i64 0, .int .i64 0] 23)).drew) := (B22.out.alloc B22.out.size _).drew
    have ZB : Hid (Cl (v20.alloc (.cells #[.int .i64 0, .int .i64 0, .int .i64 0, .int .i64 0, .int .i64 0] 23)).drew v20.heap.size #[.int .i64 0, .int .i64 0, .int .i64 0, .int .i64 0, .int .i64 0] 23) := Cl.new v20 _ _
    have Aa : Hid (Cl v20.drew w.heap.size #[.int .i64 n0, .int .i64 n1, .int .i64 n2, .int .i64 n3, .int .i64 n4] 23) := N23.out
    have Ba : Hid (Cl (v20.alloc (.cells #[.int .i64 0, .int .i64 0, .int .i64 0, .int .i64 0, .int .i64 0] 23)).drew w.heap.size #[.int .i64 n0, .int .i64 n1, .int .i64 n2, .int .i64 n3, .int .i64 n4] 23) := Cl.alloc N23.out _
    have Xa : Hid (w.heap.size ≠ v20.heap.size) := Nat.ne_of_lt (Cl.lt N23.out)
    have Ab : Hid (Cl v20.drew q2 #[.int .i64 m0, .int .i64 m1, .int .i64 m2, .int .i64 m3, .int .i64 m4] 23) := N24.out
    have Bb : Hid (Cl (v20.alloc (.cells #[.int .i64 0, .int .i64 0, .int .i64 0, .int .i64 0, .int .i64 0] 23)).drew q2 #[.int .i64 m0, .int .i64 m1, .int .i64 m2, .int .i64 m3, .int .i64 m4] 23) := Cl.alloc N24.out _
    have Xb : Hid (q2 ≠ v20.heap.size) := Nat.ne_of_lt (Cl.lt N24.out)
    go_region_held3 (fun _ => True) (trivial) ((first | (go_at_call_of 12 (Value.string X); refine Calls.mono (DX.out v20.drew TA.out) ?_; rintro e u ⟨rfl, bu⟩; have UB : Hid (Below w.heap.size w u) := BA.out.trans (bu.mono BA.out.size); have Ua : Hid (Cl u w.heap.size #[.int .i64 n0, .int .i64 n1, .int .i64 n2, .int .i64 n3, .int .i64 n4] 23) := Cl.on Aa.out bu; have Ub : Hid (Cl u q2 #[.int .i64 m0, .int .i64 m1, .int .i64 m2, .int .i64 m3, .int .i64 m4] 23) := Cl.on Ab.out bu; clear bu) | (go_at_call_of 12 (Value.string X); refine Calls.mono (DX.out (v20.alloc (.cells #[.int .i64 0, .int .i64 0, .int .i64 0, .int .i64 0, .int .i64 0] 23)).drew TB.out) ?_; rintro e u ⟨rfl, bu⟩; have UB : Hid (Below w.heap.size w u) := BB.out.trans (bu.mono BB.out.size); have Ua : Hid (Cl u w.heap.size #[.int .i64 n0, .int .i64 n1, .int .i64 n2, .int .i64 n3, .int .i64 n4] 23) := Cl.on Ba.out bu; have Ub : Hid (Cl u q2 #[.int .i64 m0, .int .i64 m1, .int .i64 m2, .int .i64 m3, .int .i64 m4] 23) := Cl.on Bb.out bu; have Uz : Hid (Cl u v20.heap.size #[.int .i64 0, .int .i64 0, .int .i64 0, .int .i64 0, .int .i64 0] 23) := Cl.on ZB.out bu; clear bu; obtain ⟨y0, y1, y2, y3, y4⟩ := Uz.out.five; have f0 := Uz.out.frozen 0; have f1 := Uz.out.frozen 1; have f2 := Uz.out.frozen 2; have f3 := Uz.out.frozen 3; have f4 := Uz.out.frozen 4)))
    all_goals (go_wp2_with fail; go_meet)
    · exact ⟨_, rfl, rfl, Cl.new u _ _, Cl.alloc Ua.out _, Cl.alloc Ub.out _, UB.out.alloc UB.out.size _⟩
    · exact ⟨_, rfl, rfl, Cl.set5 Uz.out _ _ _ _ _, Cl.only Ua.out (only_set5 u _ _ _ _ _ _) Xa.out, Cl.only Ub.out (only_set5 u _ _ _ _ _ _) Xb.out, UB.out.trans ((only_set5 u _ _ _ _ _ _).below B22.out.size)⟩
  case rest =>
  obtain ⟨q, rfl, rfl, H⟩ := hcut
  have Nr : Hid (Cl wc q #[.int .i64 n0, .int .i64 n1, .int .i64 n2, .int .i64 n3, .int .i64 n4] 23) := H.out.1
  have Na : Hid (Cl wc w.heap.size #[.int .i64 n0, .int .i64 n1, .int .i64 n2, .int .i64 n3, .int .i64 n4] 23) := H.out.2.1
  have Nb : Hid (Cl wc q2 #[.int .i64 m0, .int .i64 m1, .int .i64 m2, .int .i64 m3, .int .i64 m4] 23) := H.out.2.2.1
  have Bc : Hid (Below w.heap.size w wc) := H.out.2.2.2
  clear H N23 N24 B22
  go_wp2_with fail
  refine Calls.mono (D1.out _ (TAB.out.below Bc.out)) ?_
  rintro e v27 ⟨rfl, b28⟩
  have N30 : Hid (Cl v27 w.heap.size #[.int .i64 n0, .int .i64 n1, .int .i64 n2, .int .i64 n3, .int .i64 n4] 23) := Cl.on Na.out b28
  have N31 : Hid (Cl v27 q2 #[.int .i64 m0, .int .i64 m1, .int .i64 m2, .int .i64 m3, .int .i64 m4] 23) := Cl.on Nb.out b28
  have N32 : Hid (Cl v27 q #[.int .i64 n0, .int .i64 n1, .int .i64 n2, .int .i64 n3, .int .i64 n4] 23) := Cl.on Nr.out b28
  have B29 : Hid (Below w.heap.size w v27) := Bc.out.trans (b28.mono Bc.out.size)
  clear b28 Na Nb Nr Bc
  go_wp2_with fail
  have N36 : Hid (Cl (v27.alloc (.cells #[.int .i64 n0, .int .i64 n1, .int .i64 n2, .int .i64 n3, .int .i64 n4] 23)) v27.heap.size #[.int .i64 n0, .int .i64 n1, .int .i64 n2, .int .i64 n3, .int .i64 n4] 23) := Cl.new v27 #[.int .i64 n0, .int .i64 n1, .int .i64 n2, .int .i64 n3, .int .i64 n4] 23
  have B35 : Hid (Below w.heap.size w (v27.alloc (.cells #[.int .i64 n0, .int .i64 n1, .int .i64 n2, .int .i64 n3, .int .i64 n4] 23))) := B29.out.alloc B29.out.size _
  have L37 : Hid (w.heap.size ≤ v27.heap.size) := B29.out.size
  have N38 : Hid (Cl (v27.alloc (.cells #[.int .i64 n0, .int .i64 n1, .int .i64 n2, .int .i64 n3, .int .i64 n4] 23)) w.heap.size #[.int .i64 n0, .int .i64 n1, .int .i64 n2, .int .i64 n3, .int .i64 n4] 23) := Cl.alloc N30.out _
  have N39 : Hid (Cl (v27.alloc (.cells #[.int .i64 n0, .int .i64 n1, .int .i64 n2, .int .i64 n3, .int .i64 n4] 23)) q2 #[.int .i64 m0, .int .i64 m1, .int .i64 m2, .int .i64 m3, .int .i64 m4] 23) := Cl.alloc N31.out _
  have N40 : Hid (Cl (v27.alloc (.cells #[.int .i64 n0, .int .i64 n1, .int .i64 n2, .int .i64 n3, .int .i64 n4] 23)) q #[.int .i64 n0, .int .i64 n1, .int .i64 n2, .int .i64 n3, .int .i64 n4] 23) := Cl.alloc N32.out _
  clear N30 N31 N32 B29
  generalize v27.alloc (.cells #[.int .i64 n0, .int .i64 n1, .int .i64 n2, .int .i64 n3, .int .i64 n4] 23) = v33 at *
  generalize v27.heap.size = q34 at *
  refine Calls.mono (D2.out _ (TAB.out.below B35.out)) ?_
  rintro e v41 ⟨rfl, b42⟩
  have N44 : Hid (Cl v41 w.heap.size #[.int .i64 n0, .int .i64 n1, .int .i64 n2, .int .i64 n3, .int .i64 n4] 23) := Cl.on N38.out b42
  have N45 : Hid (Cl v41 q2 #[.int .i64 m0, .int .i64 m1, .int .i64 m2, .int .i64 m3, .int .i64 m4] 23) := Cl.on N39.out b42
  have N46 : Hid (Cl v41 q #[.int .i64 n0, .int .i64 n1, .int .i64 n2, .int .i64 n3, .int .i64 n4] 23) := Cl.on N40.out b42
  have N47 : Hid (Cl v41 q34 #[.int .i64 n0, .int .i64 n1, .int .i64 n2, .int .i64 n3, .int .i64 n4] 23) := Cl.on N36.out b42
  have B43 : Hid (Below w.heap.size w v41) := B35.out.trans (b42.mono B35.out.size)
  clear b42 N38 N39 N40 N36 B35
  go_upto_region 14 with fail
  have N51 : Hid (Cl (v41.alloc (.cells #[.int .i64 m0, .int .i64 m1, .int .i64 m2, .int .i64 m3, .int .i64 m4] 23)) v41.heap.size #[.int .i64 m0, .int .i64 m1, .int .i64 m2, .int .i64 m3, .int .i64 m4] 23) := Cl.new v41 #[.int .i64 m0, .int .i64 m1, .int .i64 m2, .int .i64 m3, .int .i64 m4] 23
  have B50 : Hid (Below w.heap.size w (v41.alloc (.cells #[.int .i64 m0, .int .i64 m1, .int .i64 m2, .int .i64 m3, .int .i64 m4] 23))) := B43.out.alloc B43.out.size _
  have L52 : Hid (w.heap.size ≤ v41.heap.size) := B43.out.size
  have N53 : Hid (Cl (v41.alloc (.cells #[.int .i64 m0, .int .i64 m1, .int .i64 m2, .int .i64 m3, .int .i64 m4] 23)) w.heap.size #[.int .i64 n0, .int .i64 n1, .int .i64 n2, .int .i64 n3, .int .i64 n4] 23) := Cl.alloc N44.out _
  have N54 : Hid (Cl (v41.alloc (.cells #[.int .i64 m0, .int .i64 m1, .int .i64 m2, .int .i64 m3, .int .i64 m4] 23)) q2 #[.int .i64 m0, .int .i64 m1, .int .i64 m2, .int .i64 m3, .int .i64 m4] 23) := Cl.alloc N45.out _
  have N55 : Hid (Cl (v41.alloc (.cells #[.int .i64 m0, .int .i64 m1, .int .i64 m2, .int .i64 m3, .int .i64 m4] 23)) q #[.int .i64 n0, .int .i64 n1, .int .i64 n2, .int .i64 n3, .int .i64 n4] 23) := Cl.alloc N46.out _
  have N56 : Hid (Cl (v41.alloc (.cells #[.int .i64 m0, .int .i64 m1, .int .i64 m2, .int .i64 m3, .int .i64 m4] 23)) q34 #[.int .i64 n0, .int .i64 n1, .int .i64 n2, .int .i64 n3, .int .i64 n4] 23) := Cl.alloc N47.out _
  clear N44 N45 N46 N47 B43
  generalize v41.alloc (.cells #[.int .i64 m0, .int .i64 m1, .int .i64 m2, .int .i64 m3, .int .i64 m4] 23) = v48 at *
  generalize v41.heap.size = q49 at *
  obtain ⟨c57_0, c57_1, c57_2, c57_3, c57_4⟩ := N53.out.five
  obtain ⟨c58_0, c58_1, c58_2, c58_3, c58_4⟩ := N54.out.five
  obtain ⟨c59_0, c59_1, c59_2, c59_3, c59_4⟩ := N55.out.five
  obtain ⟨c60_0, c60_1, c60_2, c60_3, c60_4⟩ := N56.out.five
  obtain ⟨c61_0, c61_1, c61_2, c61_3, c61_4⟩ := N51.out.five
  go_wp2
  go_ret
  exact ⟨rfl, B50.out⟩

set_option maxRecDepth 100000 in
set_option maxHeartbeats 2000000 in
theorem torn_oldz (a b : Rt) (cut : Int) (w : World) (T : Tab w) (ha : a.ok = true) (hb : b.ok = true) (he : a.ep ≠ b.ep) (k : Nat) (hk2 : k ≤ 256) (hk : min (max cut 0) 256 = (k : Int)) (hz0 : k = 0) (hz1 : k ≠ 256) (hd : decB ((slotL b).take k ++ (slotL a).drop k) = true) (hr : decR ((slotL b).take k ++ (slotL a).drop k) = a) : Calls Tryd.prog 5 #[rtV a, rtV b, .int .i64 cut] w fun e w' => e = .returned (.bool true) ∧ Below w.heap.size w w' := by
  have CW : Hid (∀ u, Tab u → Calls Tryd.prog 9 #[] u fun e w' => e = .returned (.bool true) ∧ Below u.heap.size u w') := works_any
  have TAB : Hid (Tab w) := T
  have E1 : Hid (∀ u, Tab u → Calls Tryd.prog 10 #[rtV a] u fun e w' => e = .returned (.tuple #[.string ⟨(slotL a).toArray⟩, .int .i64 0]) ∧ Below u.heap.size u w') := fun u hu => enc_yes ha u hu
  have E2 : Hid (∀ u, Tab u → Calls Tryd.prog 10 #[rtV b] u fun e w' => e = .returned (.tuple #[.string ⟨(slotL b).toArray⟩, .int .i64 0]) ∧ Below u.heap.size u w') := fun u hu => enc_yes hb u hu
  have hq : (a.ep == b.ep) = false := beq_eq_false_iff_ne.2 he
  have hq2 : (b.ep == a.ep) = false := beq_eq_false_iff_ne.2 (Ne.symm he)
  have hza : (⟨(slotL a).toArray⟩ : ByteArray).size = 256 := by rw [ba_size, slotL_length]
  have hzb : (⟨(slotL b).toArray⟩ : ByteArray).size = 256 := by rw [ba_size, slotL_length]
  have D1 : Hid (∀ u, Tab u → Calls Tryd.prog 12 #[.string ⟨(slotL a).toArray⟩] u fun e w' => e = .returned (.tuple #[rtV a, .bool true]) ∧ Below u.heap.size u w') := fun u hu => dec_to (slotL a) (slot_small a) a true (decR_slot ha) (decB_slot ha) u hu
  have D2 : Hid (∀ u, Tab u → Calls Tryd.prog 12 #[.string ⟨(slotL b).toArray⟩] u fun e w' => e = .returned (.tuple #[rtV b, .bool true]) ∧ Below u.heap.size u w') := fun u hu => dec_to (slotL b) (slot_small b) b true (decR_slot hb) (decB_slot hb) u hu
  have hX := torn_text a b k
  have DX : Hid (∀ u, Tab u → Calls Tryd.prog 12 #[.string ⟨((slotL b).take k ++ (slotL a).drop k).toArray⟩] u fun e w' => e = .returned (.tuple #[rtV a, .bool true]) ∧ Below u.heap.size u w') := fun u hu => dec_to _ (torn_small a b k) a true hr hd u hu
  have hXs : (⟨((slotL b).take k ++ (slotL a).drop k).toArray⟩ : ByteArray).size = 256 := by rw [ba_size]; exact torn_length a b hk2
  generalize (⟨((slotL b).take k ++ (slotL a).drop k).toArray⟩ : ByteArray) = X at *
  have g0 : ((k : Int) == 0) = true := by rw [hz0]; rfl
  have g1 : ((k : Int) == 256) = false := by exact beq_eq_false_iff_ne.2 (by omega)
  have hk0 : (0 : Int) ≤ (k : Int) := by omega
  have hk1 : (k : Int) ≤ 256 := by omega
  have hcc : ¬ 9223372036854775807 < min k 256 + (256 - k) := by omega
  generalize (⟨(slotL a).toArray⟩ : ByteArray) = sa at *
  generalize (⟨(slotL b).toArray⟩ : ByteArray) = sb at *
  clear ha hb he hz0 hz1 hd hr
  clear T
  obtain ⟨n0, n1, n2, n3, n4⟩ := a
  obtain ⟨m0, m1, m2, m3, m4⟩ := b
  unfold rtV at *
  (try unfold rt0 at *)
  dsimp only at *
  go_enter Tryd.func5, Tryd.ntmps5
  go_wp2_with fail
  have N4 : Hid (Cl ((w.alloc (.cells #[.int .i64 n0, .int .i64 n1, .int .i64 n2, .int .i64 n3, .int .i64 n4] 23)).alloc (.cells #[.int .i64 m0, .int .i64 m1, .int .i64 m2, .int .i64 m3, .int .i64 m4] 23)) w.heap.size #[.int .i64 n0, .int .i64 n1, .int .i64 n2, .int .i64 n3, .int .i64 n4] 23) := Cl.alloc (Cl.new _ _ _) _
  have N5 : Hid (Cl ((w.alloc (.cells #[.int .i64 n0, .int .i64 n1, .int .i64 n2, .int .i64 n3, .int .i64 n4] 23)).alloc (.cells #[.int .i64 m0, .int .i64 m1, .int .i64 m2, .int .i64 m3, .int .i64 m4] 23)) (w.heap.size + 1) #[.int .i64 m0, .int .i64 m1, .int .i64 m2, .int .i64 m3, .int .i64 m4] 23) := by
    have := Cl.new (w.alloc (.cells #[.int .i64 n0, .int .i64 n1, .int .i64 n2, .int .i64 n3, .int .i64 n4] 23)) #[.int .i64 m0, .int .i64 m1, .int .i64 m2, .int .i64 m3, .int .i64 m4] 23
    rw [show (w.alloc (.cells #[.int .i64 n0, .int .i64 n1, .int .i64 n2, .int .i64 n3, .int .i64 n4] 23)).heap.size = w.heap.size + 1 by simp] at this
    exact this
  have B3 : Hid (Below w.heap.size w ((w.alloc (.cells #[.int .i64 n0, .int .i64 n1, .int .i64 n2, .int .i64 n3, .int .i64 n4] 23)).alloc (.cells #[.int .i64 m0, .int .i64 m1, .int .i64 m2, .int .i64 m3, .int .i64 m4] 23))) := ((Below.refl _ _).alloc (Nat.le_refl _) _).alloc (by simp) _
  have L6 : Hid (w.heap.size ≤ w.heap.size) := Nat.le_refl _
  have L7 : Hid (w.heap.size ≤ w.heap.size + 1) := Nat.le_succ _
  generalize (w.alloc (.cells #[.int .i64 n0, .int .i64 n1, .int .i64 n2, .int .i64 n3, .int .i64 n4] 23)).alloc (.cells #[.int .i64 m0, .int .i64 m1, .int .i64 m2, .int .i64 m3, .int .i64 m4] 23) = v1 at *
  generalize w.heap.size + 1 = q2 at *
  refine Calls.mono (CW.out _ (TAB.out.below B3.out)) ?_
  rintro e v8 ⟨rfl, b9⟩
  have N11 : Hid (Cl v8 w.heap.size #[.int .i64 n0, .int .i64 n1, .int .i64 n2, .int .i64 n3, .int .i64 n4] 23) := Cl.on N4.out b9
  have N12 : Hid (Cl v8 q2 #[.int .i64 m0, .int .i64 m1, .int .i64 m2, .int .i64 m3, .int .i64 m4] 23) := Cl.on N5.out b9
  have B10 : Hid (Below w.heap.size w v8) := B3.out.trans (b9.mono B3.out.size)
  clear b9 N4 N5 B3
  obtain ⟨c13_0, c13_1, c13_2, c13_3, c13_4⟩ := N11.out.five
  go_wp2_with fail
  clear c13_0 c13_1 c13_2 c13_3 c13_4
  refine Calls.mono (E1.out _ (TAB.out.below B10.out)) ?_
  rintro e v14 ⟨rfl, b15⟩
  have N17 : Hid (Cl v14 w.heap.size #[.int .i64 n0, .int .i64 n1, .int .i64 n2, .int .i64 n3, .int .i64 n4] 23) := Cl.on N11.out b15
  have N18 : Hid (Cl v14 q2 #[.int .i64 m0, .int .i64 m1, .int .i64 m2, .int .i64 m3, .int .i64 m4] 23) := Cl.on N12.out b15
  have B16 : Hid (Below w.heap.size w v14) := B10.out.trans (b15.mono B10.out.size)
  clear b15 N11 N12 B10
  obtain ⟨c19_0, c19_1, c19_2, c19_3, c19_4⟩ := N18.out.five
  go_wp2_with fail
  clear c19_0 c19_1 c19_2 c19_3 c19_4
  refine Calls.mono (E2.out _ (TAB.out.below B16.out)) ?_
  rintro e v20 ⟨rfl, b21⟩
  have N23 : Hid (Cl v20 w.heap.size #[.int .i64 n0, .int .i64 n1, .int .i64 n2, .int .i64 n3, .int .i64 n4] 23) := Cl.on N17.out b21
  have N24 : Hid (Cl v20 q2 #[.int .i64 m0, .int .i64 m1, .int .i64 m2, .int .i64 m3, .int .i64 m4] 23) := Cl.on N18.out b21
  have B22 : Hid (Below w.heap.size w v20) := B16.out.trans (b21.mono B16.out.size)
  clear b21 N17 N18 B16
  obtain ⟨c25_0, c25_1, c25_2, c25_3, c25_4⟩ := N23.out.five
  obtain ⟨c26_0, c26_1, c26_2, c26_3, c26_4⟩ := N24.out.five
  go_upto_region 11 with fail
  clear c25_0 c25_1 c25_2 c25_3 c25_4 c26_0 c26_1 c26_2 c26_3 c26_4
  go_cut [13, 14] (fun t13 t14 wx => ∃ q : Nat, t13 = .pointer (some ⟨q, 0, none⟩) ∧ t14 = .bool true ∧ Hid (Cl wx q #[.int .i64 n0, .int .i64 n1, .int .i64 n2, .int .i64 n3, .int .i64 n4] 23 ∧ Cl wx w.heap.size #[.int .i64 n0, .int .i64 n1, .int .i64 n2, .int .i64 n3, .int .i64 n4] 23 ∧ Cl wx q2 #[.int .i64 m0, .int .i64 m1, .int .i64 m2, .int .i64 m3, .int .i64 m4] 23 ∧ Below w.heap.size w wx))
  case first =>
    have TA : Hid (Tab v20.drew) := TAB.out.below B22.out.drew
    have TB : Hid (Tab (v20.alloc (.cells #[.int .i64 0, .int .i64 0, .int .i64 0, .int .i64 0, .int .i64 0] 23)).drew) := TAB.out.below (B22.out.alloc B22.out.size _).drew
    have BA : Hid (Below w.heap.size w v20.drew) := B22.out.drew
    have BB : Hid (Below w.heap.size w (v20.alloc (.cells #[.int .i64 0, .int .i64 0, .int .i64 0, .int .i64 0, .int .i64 0] 23)).drew) := (B22.out.alloc B22.out.size _).drew
    have ZB : Hid (Cl (v20.alloc (.cells #[.int .i64 0, .int .i64 0, .int .i64 0, .int .i64 0, .int .i64 0] 23)).drew v20.heap.size #[.int .i64 0, .int .i64 0, .int .i64 0, .int .i64 0, .int .i64 0] 23) := Cl.new v20 _ _
    have Aa : Hid (Cl v20.drew w.heap.size #[.int .i64 n0, .int .i64 n1, .int .i64 n2, .int .i64 n3, .int .i64 n4] 23) := N23.out
    have Ba : Hid (Cl (v20.alloc (.cells #[.int .i64 0, .int .i64 0, .int .i64 0, .int .i64 0, .int .i64 0] 23)).drew w.heap.size #[.int .i64 n0, .int .i64 n1, .int .i64 n2, .int .i64 n3, .int .i64 n4] 23) := Cl.alloc N23.out _
    have Xa : Hid (w.heap.size ≠ v20.heap.size) := Nat.ne_of_lt (Cl.lt N23.out)
    have Ab : Hid (Cl v20.drew q2 #[.int .i64 m0, .int .i64 m1, .int .i64 m2, .int .i64 m3, .int .i64 m4] 23) := N24.out
    have Bb : Hid (Cl (v20.alloc (.cells #[.int .i64 0, .int .i64 0, .int .i64 0, .int .i64 0, .int .i64 0] 23)).drew q2 #[.int .i64 m0, .int .i64 m1, .int .i64 m2, .int .i64 m3, .int .i64 m4] 23) := Cl.alloc N24.out _
    have Xb : Hid (q2 ≠ v20.heap.size) := Nat.ne_of_lt (Cl.lt N24.out)
    go_region_held3 (fun _ => True) (trivial) ((first | (go_at_call_of 12 (Value.string X); refine Calls.mono (DX.out v20.drew TA.out) ?_; rintro e u ⟨rfl, bu⟩; have UB : Hid (Below w.heap.size w u) := BA.out.trans (bu.mono BA.out.size); have Ua : Hid (Cl u w.heap.size #[.int .i64 n0, .int .i64 n1, .int .i64 n2, .int .i64 n3, .int .i64 n4] 23) := Cl.on Aa.out bu; have Ub : Hid (Cl u q2 #[.int .i64 m0, .int .i64 m1, .int .i64 m2, .int .i64 m3, .int .i64 m4] 23) := Cl.on Ab.out bu; clear bu) | (go_at_call_of 12 (Value.string X); refine Calls.mono (DX.out (v20.alloc (.cells #[.int .i64 0, .int .i64 0, .int .i64 0, .int .i64 0, .int .i64 0] 23)).drew TB.out) ?_; rintro e u ⟨rfl, bu⟩; have UB : Hid (Below w.heap.size w u) := BB.out.trans (bu.mono BB.out.size); have Ua : Hid (Cl u w.heap.size #[.int .i64 n0, .int .i64 n1, .int .i64 n2, .int .i64 n3, .int .i64 n4] 23) := Cl.on Ba.out bu; have Ub : Hid (Cl u q2 #[.int .i64 m0, .int .i64 m1, .int .i64 m2, .int .i64 m3, .int .i64 m4] 23) := Cl.on Bb.out bu; have Uz : Hid (Cl u v20.heap.size #[.int .i64 0, .int .i64 0, .int .i64 0, .int .i64 0, .int .i64 0] 23) := Cl.on ZB.out bu; clear bu; obtain ⟨y0, y1, y2, y3, y4⟩ := Uz.out.five; have f0 := Uz.out.frozen 0; have f1 := Uz.out.frozen 1; have f2 := Uz.out.frozen 2; have f3 := Uz.out.frozen 3; have f4 := Uz.out.frozen 4)))
    all_goals (go_wp2_with fail; go_meet)
    · exact ⟨_, rfl, rfl, Cl.new u _ _, Cl.alloc Ua.out _, Cl.alloc Ub.out _, UB.out.alloc UB.out.size _⟩
    · exact ⟨_, rfl, rfl, Cl.set5 Uz.out _ _ _ _ _, Cl.only Ua.out (only_set5 u _ _ _ _ _ _) Xa.out, Cl.only Ub.out (only_set5 u _ _ _ _ _ _) Xb.out, UB.out.trans ((only_set5 u _ _ _ _ _ _).below B22.out.size)⟩
  case rest =>
  obtain ⟨q, rfl, rfl, H⟩ := hcut
  have Nr : Hid (Cl wc q #[.int .i64 n0, .int .i64 n1, .int .i64 n2, .int .i64 n3, .int .i64 n4] 23) := H.out.1
  have Na : Hid (Cl wc w.heap.size #[.int .i64 n0, .int .i64 n1, .int .i64 n2, .int .i64 n3, .int .i64 n4] 23) := H.out.2.1
  have Nb : Hid (Cl wc q2 #[.int .i64 m0, .int .i64 m1, .int .i64 m2, .int .i64 m3, .int .i64 m4] 23) := H.out.2.2.1
  have Bc : Hid (Below w.heap.size w wc) := H.out.2.2.2
  clear H N23 N24 B22
  go_wp2_with fail
  refine Calls.mono (D1.out _ (TAB.out.below Bc.out)) ?_
  rintro e v27 ⟨rfl, b28⟩
  have N30 : Hid (Cl v27 w.heap.size #[.int .i64 n0, .int .i64 n1, .int .i64 n2, .int .i64 n3, .int .i64 n4] 23) := Cl.on Na.out b28
  have N31 : Hid (Cl v27 q2 #[.int .i64 m0, .int .i64 m1, .int .i64 m2, .int .i64 m3, .int .i64 m4] 23) := Cl.on Nb.out b28
  have N32 : Hid (Cl v27 q #[.int .i64 n0, .int .i64 n1, .int .i64 n2, .int .i64 n3, .int .i64 n4] 23) := Cl.on Nr.out b28
  have B29 : Hid (Below w.heap.size w v27) := Bc.out.trans (b28.mono Bc.out.size)
  clear b28 Na Nb Nr Bc
  go_wp2_with fail
  have N36 : Hid (Cl (v27.alloc (.cells #[.int .i64 n0, .int .i64 n1, .int .i64 n2, .int .i64 n3, .int .i64 n4] 23)) v27.heap.size #[.int .i64 n0, .int .i64 n1, .int .i64 n2, .int .i64 n3, .int .i64 n4] 23) := Cl.new v27 #[.int .i64 n0, .int .i64 n1, .int .i64 n2, .int .i64 n3, .int .i64 n4] 23
  have B35 : Hid (Below w.heap.size w (v27.alloc (.cells #[.int .i64 n0, .int .i64 n1, .int .i64 n2, .int .i64 n3, .int .i64 n4] 23))) := B29.out.alloc B29.out.size _
  have L37 : Hid (w.heap.size ≤ v27.heap.size) := B29.out.size
  have N38 : Hid (Cl (v27.alloc (.cells #[.int .i64 n0, .int .i64 n1, .int .i64 n2, .int .i64 n3, .int .i64 n4] 23)) w.heap.size #[.int .i64 n0, .int .i64 n1, .int .i64 n2, .int .i64 n3, .int .i64 n4] 23) := Cl.alloc N30.out _
  have N39 : Hid (Cl (v27.alloc (.cells #[.int .i64 n0, .int .i64 n1, .int .i64 n2, .int .i64 n3, .int .i64 n4] 23)) q2 #[.int .i64 m0, .int .i64 m1, .int .i64 m2, .int .i64 m3, .int .i64 m4] 23) := Cl.alloc N31.out _
  have N40 : Hid (Cl (v27.alloc (.cells #[.int .i64 n0, .int .i64 n1, .int .i64 n2, .int .i64 n3, .int .i64 n4] 23)) q #[.int .i64 n0, .int .i64 n1, .int .i64 n2, .int .i64 n3, .int .i64 n4] 23) := Cl.alloc N32.out _
  clear N30 N31 N32 B29
  generalize v27.alloc (.cells #[.int .i64 n0, .int .i64 n1, .int .i64 n2, .int .i64 n3, .int .i64 n4] 23) = v33 at *
  generalize v27.heap.size = q34 at *
  refine Calls.mono (D2.out _ (TAB.out.below B35.out)) ?_
  rintro e v41 ⟨rfl, b42⟩
  have N44 : Hid (Cl v41 w.heap.size #[.int .i64 n0, .int .i64 n1, .int .i64 n2, .int .i64 n3, .int .i64 n4] 23) := Cl.on N38.out b42
  have N45 : Hid (Cl v41 q2 #[.int .i64 m0, .int .i64 m1, .int .i64 m2, .int .i64 m3, .int .i64 m4] 23) := Cl.on N39.out b42
  have N46 : Hid (Cl v41 q #[.int .i64 n0, .int .i64 n1, .int .i64 n2, .int .i64 n3, .int .i64 n4] 23) := Cl.on N40.out b42
  have N47 : Hid (Cl v41 q34 #[.int .i64 n0, .int .i64 n1, .int .i64 n2, .int .i64 n3, .int .i64 n4] 23) := Cl.on N36.out b42
  have B43 : Hid (Below w.heap.size w v41) := B35.out.trans (b42.mono B35.out.size)
  clear b42 N38 N39 N40 N36 B35
  go_upto_region 14 with fail
  have N51 : Hid (Cl (v41.alloc (.cells #[.int .i64 m0, .int .i64 m1, .int .i64 m2, .int .i64 m3, .int .i64 m4] 23)) v41.heap.size #[.int .i64 m0, .int .i64 m1, .int .i64 m2, .int .i64 m3, .int .i64 m4] 23) := Cl.new v41 #[.int .i64 m0, .int .i64 m1, .int .i64 m2, .int .i64 m3, .int .i64 m4] 23
  have B50 : Hid (Below w.heap.size w (v41.alloc (.cells #[.int .i64 m0, .int .i64 m1, .int .i64 m2, .int .i64 m3, .int .i64 m4] 23))) := B43.out.alloc B43.out.size _
  have L52 : Hid (w.heap.size ≤ v41.heap.size) := B43.out.size
  have N53 : Hid (Cl (v41.alloc (.cells #[.int .i64 m0, .int .i64 m1, .int .i64 m2, .int .i64 m3, .int .i64 m4] 23)) w.heap.size #[.int .i64 n0, .int .i64 n1, .int .i64 n2, .int .i64 n3, .int .i64 n4] 23) := Cl.alloc N44.out _
  have N54 : Hid (Cl (v41.alloc (.cells #[.int .i64 m0, .int .i64 m1, .int .i64 m2, .int .i64 m3, .int .i64 m4] 23)) q2 #[.int .i64 m0, .int .i64 m1, .int .i64 m2, .int .i64 m3, .int .i64 m4] 23) := Cl.alloc N45.out _
  have N55 : Hid (Cl (v41.alloc (.cells #[.int .i64 m0, .int .i64 m1, .int .i64 m2, .int .i64 m3, .int .i64 m4] 23)) q #[.int .i64 n0, .int .i64 n1, .int .i64 n2, .int .i64 n3, .int .i64 n4] 23) := Cl.alloc N46.out _
  have N56 : Hid (Cl (v41.alloc (.cells #[.int .i64 m0, .int .i64 m1, .int .i64 m2, .int .i64 m3, .int .i64 m4] 23)) q34 #[.int .i64 n0, .int .i64 n1, .int .i64 n2, .int .i64 n3, .int .i64 n4] 23) := Cl.alloc N47.out _
  clear N44 N45 N46 N47 B43
  generalize v41.alloc (.cells #[.int .i64 m0, .int .i64 m1, .int .i64 m2, .int .i64 m3, .int .i64 m4] 23) = v48 at *
  generalize v41.heap.size = q49 at *
  obtain ⟨c57_0, c57_1, c57_2, c57_3, c57_4⟩ := N53.out.five
  obtain ⟨c58_0, c58_1, c58_2, c58_3, c58_4⟩ := N54.out.five
  obtain ⟨c59_0, c59_1, c59_2, c59_3, c59_4⟩ := N55.out.five
  obtain ⟨c60_0, c60_1, c60_2, c60_3, c60_4⟩ := N56.out.five
  obtain ⟨c61_0, c61_1, c61_2, c61_3, c61_4⟩ := N51.out.five
  go_wp2
  go_ret
  exact ⟨rfl, B50.out⟩

set_option maxRecDepth 100000 in
set_option maxHeartbeats 2000000 in
theorem torn_newm (a b : Rt) (cut : Int) (w : World) (T : Tab w) (ha : a.ok = true) (hb : b.ok = true) (he : a.ep ≠ b.ep) (k : Nat) (hk2 : k ≤ 256) (hk : min (max cut 0) 256 = (k : Int)) (hz0 : k ≠ 0) (hz1 : k ≠ 256) (hd : decB ((slotL b).take k ++ (slotL a).drop k) = true) (hr : decR ((slotL b).take k ++ (slotL a).drop k) = b) : Calls Tryd.prog 5 #[rtV a, rtV b, .int .i64 cut] w fun e w' => e = .returned (.bool true) ∧ Below w.heap.size w w' := by
  have CW : Hid (∀ u, Tab u → Calls Tryd.prog 9 #[] u fun e w' => e = .returned (.bool true) ∧ Below u.heap.size u w') := works_any
  have TAB : Hid (Tab w) := T
  have E1 : Hid (∀ u, Tab u → Calls Tryd.prog 10 #[rtV a] u fun e w' => e = .returned (.tuple #[.string ⟨(slotL a).toArray⟩, .int .i64 0]) ∧ Below u.heap.size u w') := fun u hu => enc_yes ha u hu
  have E2 : Hid (∀ u, Tab u → Calls Tryd.prog 10 #[rtV b] u fun e w' => e = .returned (.tuple #[.string ⟨(slotL b).toArray⟩, .int .i64 0]) ∧ Below u.heap.size u w') := fun u hu => enc_yes hb u hu
  have hq : (a.ep == b.ep) = false := beq_eq_false_iff_ne.2 he
  have hq2 : (b.ep == a.ep) = false := beq_eq_false_iff_ne.2 (Ne.symm he)
  have hza : (⟨(slotL a).toArray⟩ : ByteArray).size = 256 := by rw [ba_size, slotL_length]
  have hzb : (⟨(slotL b).toArray⟩ : ByteArray).size = 256 := by rw [ba_size, slotL_length]
  have D1 : Hid (∀ u, Tab u → Calls Tryd.prog 12 #[.string ⟨(slotL a).toArray⟩] u fun e w' => e = .returned (.tuple #[rtV a, .bool true]) ∧ Below u.heap.size u w') := fun u hu => dec_to (slotL a) (slot_small a) a true (decR_slot ha) (decB_slot ha) u hu
  have D2 : Hid (∀ u, Tab u → Calls Tryd.prog 12 #[.string ⟨(slotL b).toArray⟩] u fun e w' => e = .returned (.tuple #[rtV b, .bool true]) ∧ Below u.heap.size u w') := fun u hu => dec_to (slotL b) (slot_small b) b true (decR_slot hb) (decB_slot hb) u hu
  have hX := torn_text a b k
  have DX : Hid (∀ u, Tab u → Calls Tryd.prog 12 #[.string ⟨((slotL b).take k ++ (slotL a).drop k).toArray⟩] u fun e w' => e = .returned (.tuple #[rtV b, .bool true]) ∧ Below u.heap.size u w') := fun u hu => dec_to _ (torn_small a b k) b true hr hd u hu
  have hXs : (⟨((slotL b).take k ++ (slotL a).drop k).toArray⟩ : ByteArray).size = 256 := by rw [ba_size]; exact torn_length a b hk2
  generalize (⟨((slotL b).take k ++ (slotL a).drop k).toArray⟩ : ByteArray) = X at *
  have g0 : ((k : Int) == 0) = false := by exact beq_eq_false_iff_ne.2 (by omega)
  have g1 : ((k : Int) == 256) = false := by exact beq_eq_false_iff_ne.2 (by omega)
  have hk0 : (0 : Int) ≤ (k : Int) := by omega
  have hk1 : (k : Int) ≤ 256 := by omega
  have hcc : ¬ 9223372036854775807 < min k 256 + (256 - k) := by omega
  generalize (⟨(slotL a).toArray⟩ : ByteArray) = sa at *
  generalize (⟨(slotL b).toArray⟩ : ByteArray) = sb at *
  clear ha hb he hz0 hz1 hd hr
  clear T
  obtain ⟨n0, n1, n2, n3, n4⟩ := a
  obtain ⟨m0, m1, m2, m3, m4⟩ := b
  unfold rtV at *
  (try unfold rt0 at *)
  dsimp only at *
  go_enter Tryd.func5, Tryd.ntmps5
  go_wp2_with fail
  have N4 : Hid (Cl ((w.alloc (.cells #[.int .i64 n0, .int .i64 n1, .int .i64 n2, .int .i64 n3, .int .i64 n4] 23)).alloc (.cells #[.int .i64 m0, .int .i64 m1, .int .i64 m2, .int .i64 m3, .int .i64 m4] 23)) w.heap.size #[.int .i64 n0, .int .i64 n1, .int .i64 n2, .int .i64 n3, .int .i64 n4] 23) := Cl.alloc (Cl.new _ _ _) _
  have N5 : Hid (Cl ((w.alloc (.cells #[.int .i64 n0, .int .i64 n1, .int .i64 n2, .int .i64 n3, .int .i64 n4] 23)).alloc (.cells #[.int .i64 m0, .int .i64 m1, .int .i64 m2, .int .i64 m3, .int .i64 m4] 23)) (w.heap.size + 1) #[.int .i64 m0, .int .i64 m1, .int .i64 m2, .int .i64 m3, .int .i64 m4] 23) := by
    have := Cl.new (w.alloc (.cells #[.int .i64 n0, .int .i64 n1, .int .i64 n2, .int .i64 n3, .int .i64 n4] 23)) #[.int .i64 m0, .int .i64 m1, .int .i64 m2, .int .i64 m3, .int .i64 m4] 23
    rw [show (w.alloc (.cells #[.int .i64 n0, .int .i64 n1, .int .i64 n2, .int .i64 n3, .int .i64 n4] 23)).heap.size = w.heap.size + 1 by simp] at this
    exact this
  have B3 : Hid (Below w.heap.size w ((w.alloc (.cells #[.int .i64 n0, .int .i64 n1, .int .i64 n2, .int .i64 n3, .int .i64 n4] 23)).alloc (.cells #[.int .i64 m0, .int .i64 m1, .int .i64 m2, .int .i64 m3, .int .i64 m4] 23))) := ((Below.refl _ _).alloc (Nat.le_refl _) _).alloc (by simp) _
  have L6 : Hid (w.heap.size ≤ w.heap.size) := Nat.le_refl _
  have L7 : Hid (w.heap.size ≤ w.heap.size + 1) := Nat.le_succ _
  generalize (w.alloc (.cells #[.int .i64 n0, .int .i64 n1, .int .i64 n2, .int .i64 n3, .int .i64 n4] 23)).alloc (.cells #[.int .i64 m0, .int .i64 m1, .int .i64 m2, .int .i64 m3, .int .i64 m4] 23) = v1 at *
  generalize w.heap.size + 1 = q2 at *
  refine Calls.mono (CW.out _ (TAB.out.below B3.out)) ?_
  rintro e v8 ⟨rfl, b9⟩
  have N11 : Hid (Cl v8 w.heap.size #[.int .i64 n0, .int .i64 n1, .int .i64 n2, .int .i64 n3, .int .i64 n4] 23) := Cl.on N4.out b9
  have N12 : Hid (Cl v8 q2 #[.int .i64 m0, .int .i64 m1, .int .i64 m2, .int .i64 m3, .int .i64 m4] 23) := Cl.on N5.out b9
  have B10 : Hid (Below w.heap.size w v8) := B3.out.trans (b9.mono B3.out.size)
  clear b9 N4 N5 B3
  obtain ⟨c13_0, c13_1, c13_2, c13_3, c13_4⟩ := N11.out.five
  go_wp2_with fail
  clear c13_0 c13_1 c13_2 c13_3 c13_4
  refine Calls.mono (E1.out _ (TAB.out.below B10.out)) ?_
  rintro e v14 ⟨rfl, b15⟩
  have N17 : Hid (Cl v14 w.heap.size #[.int .i64 n0, .int .i64 n1, .int .i64 n2, .int .i64 n3, .int .i64 n4] 23) := Cl.on N11.out b15
  have N18 : Hid (Cl v14 q2 #[.int .i64 m0, .int .i64 m1, .int .i64 m2, .int .i64 m3, .int .i64 m4] 23) := Cl.on N12.out b15
  have B16 : Hid (Below w.heap.size w v14) := B10.out.trans (b15.mono B10.out.size)
  clear b15 N11 N12 B10
  obtain ⟨c19_0, c19_1, c19_2, c19_3, c19_4⟩ := N18.out.five
  go_wp2_with fail
  clear c19_0 c19_1 c19_2 c19_3 c19_4
  refine Calls.mono (E2.out _ (TAB.out.below B16.out)) ?_
  rintro e v20 ⟨rfl, b21⟩
  have N23 : Hid (Cl v20 w.heap.size #[.int .i64 n0, .int .i64 n1, .int .i64 n2, .int .i64 n3, .int .i64 n4] 23) := Cl.on N17.out b21
  have N24 : Hid (Cl v20 q2 #[.int .i64 m0, .int .i64 m1, .int .i64 m2, .int .i64 m3, .int .i64 m4] 23) := Cl.on N18.out b21
  have B22 : Hid (Below w.heap.size w v20) := B16.out.trans (b21.mono B16.out.size)
  clear b21 N17 N18 B16
  obtain ⟨c25_0, c25_1, c25_2, c25_3, c25_4⟩ := N23.out.five
  obtain ⟨c26_0, c26_1, c26_2, c26_3, c26_4⟩ := N24.out.five
  go_upto_region 11 with fail
  clear c25_0 c25_1 c25_2 c25_3 c25_4 c26_0 c26_1 c26_2 c26_3 c26_4
  go_cut [13, 14] (fun t13 t14 wx => ∃ q : Nat, t13 = .pointer (some ⟨q, 0, none⟩) ∧ t14 = .bool true ∧ Hid (Cl wx q #[.int .i64 m0, .int .i64 m1, .int .i64 m2, .int .i64 m3, .int .i64 m4] 23 ∧ Cl wx w.heap.size #[.int .i64 n0, .int .i64 n1, .int .i64 n2, .int .i64 n3, .int .i64 n4] 23 ∧ Cl wx q2 #[.int .i64 m0, .int .i64 m1, .int .i64 m2, .int .i64 m3, .int .i64 m4] 23 ∧ Below w.heap.size w wx))
  case first =>
    have TA : Hid (Tab v20.drew) := TAB.out.below B22.out.drew
    have TB : Hid (Tab (v20.alloc (.cells #[.int .i64 0, .int .i64 0, .int .i64 0, .int .i64 0, .int .i64 0] 23)).drew) := TAB.out.below (B22.out.alloc B22.out.size _).drew
    have BA : Hid (Below w.heap.size w v20.drew) := B22.out.drew
    have BB : Hid (Below w.heap.size w (v20.alloc (.cells #[.int .i64 0, .int .i64 0, .int .i64 0, .int .i64 0, .int .i64 0] 23)).drew) := (B22.out.alloc B22.out.size _).drew
    have ZB : Hid (Cl (v20.alloc (.cells #[.int .i64 0, .int .i64 0, .int .i64 0, .int .i64 0, .int .i64 0] 23)).drew v20.heap.size #[.int .i64 0, .int .i64 0, .int .i64 0, .int .i64 0, .int .i64 0] 23) := Cl.new v20 _ _
    have Aa : Hid (Cl v20.drew w.heap.size #[.int .i64 n0, .int .i64 n1, .int .i64 n2, .int .i64 n3, .int .i64 n4] 23) := N23.out
    have Ba : Hid (Cl (v20.alloc (.cells #[.int .i64 0, .int .i64 0, .int .i64 0, .int .i64 0, .int .i64 0] 23)).drew w.heap.size #[.int .i64 n0, .int .i64 n1, .int .i64 n2, .int .i64 n3, .int .i64 n4] 23) := Cl.alloc N23.out _
    have Xa : Hid (w.heap.size ≠ v20.heap.size) := Nat.ne_of_lt (Cl.lt N23.out)
    have Ab : Hid (Cl v20.drew q2 #[.int .i64 m0, .int .i64 m1, .int .i64 m2, .int .i64 m3, .int .i64 m4] 23) := N24.out
    have Bb : Hid (Cl (v20.alloc (.cells #[.int .i64 0, .int .i64 0, .int .i64 0, .int .i64 0, .int .i64 0] 23)).drew q2 #[.int .i64 m0, .int .i64 m1, .int .i64 m2, .int .i64 m3, .int .i64 m4] 23) := Cl.alloc N24.out _
    have Xb : Hid (q2 ≠ v20.heap.size) := Nat.ne_of_lt (Cl.lt N24.out)
    go_region_held3 (fun _ => True) (trivial) ((first | (go_at_call_of 12 (Value.string X); refine Calls.mono (DX.out v20.drew TA.out) ?_; rintro e u ⟨rfl, bu⟩; have UB : Hid (Below w.heap.size w u) := BA.out.trans (bu.mono BA.out.size); have Ua : Hid (Cl u w.heap.size #[.int .i64 n0, .int .i64 n1, .int .i64 n2, .int .i64 n3, .int .i64 n4] 23) := Cl.on Aa.out bu; have Ub : Hid (Cl u q2 #[.int .i64 m0, .int .i64 m1, .int .i64 m2, .int .i64 m3, .int .i64 m4] 23) := Cl.on Ab.out bu; clear bu) | (go_at_call_of 12 (Value.string X); refine Calls.mono (DX.out (v20.alloc (.cells #[.int .i64 0, .int .i64 0, .int .i64 0, .int .i64 0, .int .i64 0] 23)).drew TB.out) ?_; rintro e u ⟨rfl, bu⟩; have UB : Hid (Below w.heap.size w u) := BB.out.trans (bu.mono BB.out.size); have Ua : Hid (Cl u w.heap.size #[.int .i64 n0, .int .i64 n1, .int .i64 n2, .int .i64 n3, .int .i64 n4] 23) := Cl.on Ba.out bu; have Ub : Hid (Cl u q2 #[.int .i64 m0, .int .i64 m1, .int .i64 m2, .int .i64 m3, .int .i64 m4] 23) := Cl.on Bb.out bu; have Uz : Hid (Cl u v20.heap.size #[.int .i64 0, .int .i64 0, .int .i64 0, .int .i64 0, .int .i64 0] 23) := Cl.on ZB.out bu; clear bu; obtain ⟨y0, y1, y2, y3, y4⟩ := Uz.out.five; have f0 := Uz.out.frozen 0; have f1 := Uz.out.frozen 1; have f2 := Uz.out.frozen 2; have f3 := Uz.out.frozen 3; have f4 := Uz.out.frozen 4)))
    all_goals (go_wp2_with fail; go_meet)
    · exact ⟨_, rfl, rfl, Cl.new u _ _, Cl.alloc Ua.out _, Cl.alloc Ub.out _, UB.out.alloc UB.out.size _⟩
    · exact ⟨_, rfl, rfl, Cl.set5 Uz.out _ _ _ _ _, Cl.only Ua.out (only_set5 u _ _ _ _ _ _) Xa.out, Cl.only Ub.out (only_set5 u _ _ _ _ _ _) Xb.out, UB.out.trans ((only_set5 u _ _ _ _ _ _).below B22.out.size)⟩
  case rest =>
  obtain ⟨q, rfl, rfl, H⟩ := hcut
  have Nr : Hid (Cl wc q #[.int .i64 m0, .int .i64 m1, .int .i64 m2, .int .i64 m3, .int .i64 m4] 23) := H.out.1
  have Na : Hid (Cl wc w.heap.size #[.int .i64 n0, .int .i64 n1, .int .i64 n2, .int .i64 n3, .int .i64 n4] 23) := H.out.2.1
  have Nb : Hid (Cl wc q2 #[.int .i64 m0, .int .i64 m1, .int .i64 m2, .int .i64 m3, .int .i64 m4] 23) := H.out.2.2.1
  have Bc : Hid (Below w.heap.size w wc) := H.out.2.2.2
  clear H N23 N24 B22
  go_wp2_with fail
  refine Calls.mono (D1.out _ (TAB.out.below Bc.out)) ?_
  rintro e v27 ⟨rfl, b28⟩
  have N30 : Hid (Cl v27 w.heap.size #[.int .i64 n0, .int .i64 n1, .int .i64 n2, .int .i64 n3, .int .i64 n4] 23) := Cl.on Na.out b28
  have N31 : Hid (Cl v27 q2 #[.int .i64 m0, .int .i64 m1, .int .i64 m2, .int .i64 m3, .int .i64 m4] 23) := Cl.on Nb.out b28
  have N32 : Hid (Cl v27 q #[.int .i64 m0, .int .i64 m1, .int .i64 m2, .int .i64 m3, .int .i64 m4] 23) := Cl.on Nr.out b28
  have B29 : Hid (Below w.heap.size w v27) := Bc.out.trans (b28.mono Bc.out.size)
  clear b28 Na Nb Nr Bc
  go_wp2_with fail
  have N36 : Hid (Cl (v27.alloc (.cells #[.int .i64 n0, .int .i64 n1, .int .i64 n2, .int .i64 n3, .int .i64 n4] 23)) v27.heap.size #[.int .i64 n0, .int .i64 n1, .int .i64 n2, .int .i64 n3, .int .i64 n4] 23) := Cl.new v27 #[.int .i64 n0, .int .i64 n1, .int .i64 n2, .int .i64 n3, .int .i64 n4] 23
  have B35 : Hid (Below w.heap.size w (v27.alloc (.cells #[.int .i64 n0, .int .i64 n1, .int .i64 n2, .int .i64 n3, .int .i64 n4] 23))) := B29.out.alloc B29.out.size _
  have L37 : Hid (w.heap.size ≤ v27.heap.size) := B29.out.size
  have N38 : Hid (Cl (v27.alloc (.cells #[.int .i64 n0, .int .i64 n1, .int .i64 n2, .int .i64 n3, .int .i64 n4] 23)) w.heap.size #[.int .i64 n0, .int .i64 n1, .int .i64 n2, .int .i64 n3, .int .i64 n4] 23) := Cl.alloc N30.out _
  have N39 : Hid (Cl (v27.alloc (.cells #[.int .i64 n0, .int .i64 n1, .int .i64 n2, .int .i64 n3, .int .i64 n4] 23)) q2 #[.int .i64 m0, .int .i64 m1, .int .i64 m2, .int .i64 m3, .int .i64 m4] 23) := Cl.alloc N31.out _
  have N40 : Hid (Cl (v27.alloc (.cells #[.int .i64 n0, .int .i64 n1, .int .i64 n2, .int .i64 n3, .int .i64 n4] 23)) q #[.int .i64 m0, .int .i64 m1, .int .i64 m2, .int .i64 m3, .int .i64 m4] 23) := Cl.alloc N32.out _
  clear N30 N31 N32 B29
  generalize v27.alloc (.cells #[.int .i64 n0, .int .i64 n1, .int .i64 n2, .int .i64 n3, .int .i64 n4] 23) = v33 at *
  generalize v27.heap.size = q34 at *
  refine Calls.mono (D2.out _ (TAB.out.below B35.out)) ?_
  rintro e v41 ⟨rfl, b42⟩
  have N44 : Hid (Cl v41 w.heap.size #[.int .i64 n0, .int .i64 n1, .int .i64 n2, .int .i64 n3, .int .i64 n4] 23) := Cl.on N38.out b42
  have N45 : Hid (Cl v41 q2 #[.int .i64 m0, .int .i64 m1, .int .i64 m2, .int .i64 m3, .int .i64 m4] 23) := Cl.on N39.out b42
  have N46 : Hid (Cl v41 q #[.int .i64 m0, .int .i64 m1, .int .i64 m2, .int .i64 m3, .int .i64 m4] 23) := Cl.on N40.out b42
  have N47 : Hid (Cl v41 q34 #[.int .i64 n0, .int .i64 n1, .int .i64 n2, .int .i64 n3, .int .i64 n4] 23) := Cl.on N36.out b42
  have B43 : Hid (Below w.heap.size w v41) := B35.out.trans (b42.mono B35.out.size)
  clear b42 N38 N39 N40 N36 B35
  go_upto_region 14 with fail
  have N51 : Hid (Cl (v41.alloc (.cells #[.int .i64 m0, .int .i64 m1, .int .i64 m2, .int .i64 m3, .int .i64 m4] 23)) v41.heap.size #[.int .i64 m0, .int .i64 m1, .int .i64 m2, .int .i64 m3, .int .i64 m4] 23) := Cl.new v41 #[.int .i64 m0, .int .i64 m1, .int .i64 m2, .int .i64 m3, .int .i64 m4] 23
  have B50 : Hid (Below w.heap.size w (v41.alloc (.cells #[.int .i64 m0, .int .i64 m1, .int .i64 m2, .int .i64 m3, .int .i64 m4] 23))) := B43.out.alloc B43.out.size _
  have L52 : Hid (w.heap.size ≤ v41.heap.size) := B43.out.size
  have N53 : Hid (Cl (v41.alloc (.cells #[.int .i64 m0, .int .i64 m1, .int .i64 m2, .int .i64 m3, .int .i64 m4] 23)) w.heap.size #[.int .i64 n0, .int .i64 n1, .int .i64 n2, .int .i64 n3, .int .i64 n4] 23) := Cl.alloc N44.out _
  have N54 : Hid (Cl (v41.alloc (.cells #[.int .i64 m0, .int .i64 m1, .int .i64 m2, .int .i64 m3, .int .i64 m4] 23)) q2 #[.int .i64 m0, .int .i64 m1, .int .i64 m2, .int .i64 m3, .int .i64 m4] 23) := Cl.alloc N45.out _
  have N55 : Hid (Cl (v41.alloc (.cells #[.int .i64 m0, .int .i64 m1, .int .i64 m2, .int .i64 m3, .int .i64 m4] 23)) q #[.int .i64 m0, .int .i64 m1, .int .i64 m2, .int .i64 m3, .int .i64 m4] 23) := Cl.alloc N46.out _
  have N56 : Hid (Cl (v41.alloc (.cells #[.int .i64 m0, .int .i64 m1, .int .i64 m2, .int .i64 m3, .int .i64 m4] 23)) q34 #[.int .i64 n0, .int .i64 n1, .int .i64 n2, .int .i64 n3, .int .i64 n4] 23) := Cl.alloc N47.out _
  clear N44 N45 N46 N47 B43
  generalize v41.alloc (.cells #[.int .i64 m0, .int .i64 m1, .int .i64 m2, .int .i64 m3, .int .i64 m4] 23) = v48 at *
  generalize v41.heap.size = q49 at *
  obtain ⟨c57_0, c57_1, c57_2, c57_3, c57_4⟩ := N53.out.five
  obtain ⟨c58_0, c58_1, c58_2, c58_3, c58_4⟩ := N54.out.five
  obtain ⟨c59_0, c59_1, c59_2, c59_3, c59_4⟩ := N55.out.five
  obtain ⟨c60_0, c60_1, c60_2, c60_3, c60_4⟩ := N56.out.five
  obtain ⟨c61_0, c61_1, c61_2, c61_3, c61_4⟩ := N51.out.five
  go_wp2
  go_ret
  exact ⟨rfl, B50.out⟩

set_option maxRecDepth 100000 in
set_option maxHeartbeats 2000000 in
theorem torn_newf (a b : Rt) (cut : Int) (w : World) (T : Tab w) (ha : a.ok = true) (hb : b.ok = true) (he : a.ep ≠ b.ep) (k : Nat) (hk2 : k ≤ 256) (hk : min (max cut 0) 256 = (k : Int)) (hz0 : k ≠ 0) (hz1 : k = 256) (hd : decB ((slotL b).take k ++ (slotL a).drop k) = true) (hr : decR ((slotL b).take k ++ (slotL a).drop k) = b) : Calls Tryd.prog 5 #[rtV a, rtV b, .int .i64 cut] w fun e w' => e = .returned (.bool true) ∧ Below w.heap.size w w' := by
  have CW : Hid (∀ u, Tab u → Calls Tryd.prog 9 #[] u fun e w' => e = .returned (.bool true) ∧ Below u.heap.size u w') := works_any
  have TAB : Hid (Tab w) := T
  have E1 : Hid (∀ u, Tab u → Calls Tryd.prog 10 #[rtV a] u fun e w' => e = .returned (.tuple #[.string ⟨(slotL a).toArray⟩, .int .i64 0]) ∧ Below u.heap.size u w') := fun u hu => enc_yes ha u hu
  have E2 : Hid (∀ u, Tab u → Calls Tryd.prog 10 #[rtV b] u fun e w' => e = .returned (.tuple #[.string ⟨(slotL b).toArray⟩, .int .i64 0]) ∧ Below u.heap.size u w') := fun u hu => enc_yes hb u hu
  have hq : (a.ep == b.ep) = false := beq_eq_false_iff_ne.2 he
  have hq2 : (b.ep == a.ep) = false := beq_eq_false_iff_ne.2 (Ne.symm he)
  have hza : (⟨(slotL a).toArray⟩ : ByteArray).size = 256 := by rw [ba_size, slotL_length]
  have hzb : (⟨(slotL b).toArray⟩ : ByteArray).size = 256 := by rw [ba_size, slotL_length]
  have D1 : Hid (∀ u, Tab u → Calls Tryd.prog 12 #[.string ⟨(slotL a).toArray⟩] u fun e w' => e = .returned (.tuple #[rtV a, .bool true]) ∧ Below u.heap.size u w') := fun u hu => dec_to (slotL a) (slot_small a) a true (decR_slot ha) (decB_slot ha) u hu
  have D2 : Hid (∀ u, Tab u → Calls Tryd.prog 12 #[.string ⟨(slotL b).toArray⟩] u fun e w' => e = .returned (.tuple #[rtV b, .bool true]) ∧ Below u.heap.size u w') := fun u hu => dec_to (slotL b) (slot_small b) b true (decR_slot hb) (decB_slot hb) u hu
  have hX := torn_text a b k
  have DX : Hid (∀ u, Tab u → Calls Tryd.prog 12 #[.string ⟨((slotL b).take k ++ (slotL a).drop k).toArray⟩] u fun e w' => e = .returned (.tuple #[rtV b, .bool true]) ∧ Below u.heap.size u w') := fun u hu => dec_to _ (torn_small a b k) b true hr hd u hu
  have hXs : (⟨((slotL b).take k ++ (slotL a).drop k).toArray⟩ : ByteArray).size = 256 := by rw [ba_size]; exact torn_length a b hk2
  generalize (⟨((slotL b).take k ++ (slotL a).drop k).toArray⟩ : ByteArray) = X at *
  have g0 : ((k : Int) == 0) = false := by exact beq_eq_false_iff_ne.2 (by omega)
  have g1 : ((k : Int) == 256) = true := by rw [hz1]; rfl
  have hk0 : (0 : Int) ≤ (k : Int) := by omega
  have hk1 : (k : Int) ≤ 256 := by omega
  have hcc : ¬ 9223372036854775807 < min k 256 + (256 - k) := by omega
  generalize (⟨(slotL a).toArray⟩ : ByteArray) = sa at *
  generalize (⟨(slotL b).toArray⟩ : ByteArray) = sb at *
  clear ha hb he hz0 hz1 hd hr
  clear T
  obtain ⟨n0, n1, n2, n3, n4⟩ := a
  obtain ⟨m0, m1, m2, m3, m4⟩ := b
  unfold rtV at *
  (try unfold rt0 at *)
  dsimp only at *
  go_enter Tryd.func5, Tryd.ntmps5
  go_wp2_with fail
  have N4 : Hid (Cl ((w.alloc (.cells #[.int .i64 n0, .int .i64 n1, .int .i64 n2, .int .i64 n3, .int .i64 n4] 23)).alloc (.cells #[.int .i64 m0, .int .i64 m1, .int .i64 m2, .int .i64 m3, .int .i64 m4] 23)) w.heap.size #[.int .i64 n0, .int .i64 n1, .int .i64 n2, .int .i64 n3, .int .i64 n4] 23) := Cl.alloc (Cl.new _ _ _) _
  have N5 : Hid (Cl ((w.alloc (.cells #[.int .i64 n0, .int .i64 n1, .int .i64 n2, .int .i64 n3, .int .i64 n4] 23)).alloc (.cells #[.int .i64 m0, .int .i64 m1, .int .i64 m2, .int .i64 m3, .int .i64 m4] 23)) (w.heap.size + 1) #[.int .i64 m0, .int .i64 m1, .int .i64 m2, .int .i64 m3, .int .i64 m4] 23) := by
    have := Cl.new (w.alloc (.cells #[.int .i64 n0, .int .i64 n1, .int .i64 n2, .int .i64 n3, .int .i64 n4] 23)) #[.int .i64 m0, .int .i64 m1, .int .i64 m2, .int .i64 m3, .int .i64 m4] 23
    rw [show (w.alloc (.cells #[.int .i64 n0, .int .i64 n1, .int .i64 n2, .int .i64 n3, .int .i64 n4] 23)).heap.size = w.heap.size + 1 by simp] at this
    exact this
  have B3 : Hid (Below w.heap.size w ((w.alloc (.cells #[.int .i64 n0, .int .i64 n1, .int .i64 n2, .int .i64 n3, .int .i64 n4] 23)).alloc (.cells #[.int .i64 m0, .int .i64 m1, .int .i64 m2, .int .i64 m3, .int .i64 m4] 23))) := ((Below.refl _ _).alloc (Nat.le_refl _) _).alloc (by simp) _
  have L6 : Hid (w.heap.size ≤ w.heap.size) := Nat.le_refl _
  have L7 : Hid (w.heap.size ≤ w.heap.size + 1) := Nat.le_succ _
  generalize (w.alloc (.cells #[.int .i64 n0, .int .i64 n1, .int .i64 n2, .int .i64 n3, .int .i64 n4] 23)).alloc (.cells #[.int .i64 m0, .int .i64 m1, .int .i64 m2, .int .i64 m3, .int .i64 m4] 23) = v1 at *
  generalize w.heap.size + 1 = q2 at *
  refine Calls.mono (CW.out _ (TAB.out.below B3.out)) ?_
  rintro e v8 ⟨rfl, b9⟩
  have N11 : Hid (Cl v8 w.heap.size #[.int .i64 n0, .int .i64 n1, .int .i64 n2, .int .i64 n3, .int .i64 n4] 23) := Cl.on N4.out b9
  have N12 : Hid (Cl v8 q2 #[.int .i64 m0, .int .i64 m1, .int .i64 m2, .int .i64 m3, .int .i64 m4] 23) := Cl.on N5.out b9
  have B10 : Hid (Below w.heap.size w v8) := B3.out.trans (b9.mono B3.out.size)
  clear b9 N4 N5 B3
  obtain ⟨c13_0, c13_1, c13_2, c13_3, c13_4⟩ := N11.out.five
  go_wp2_with fail
  clear c13_0 c13_1 c13_2 c13_3 c13_4
  refine Calls.mono (E1.out _ (TAB.out.below B10.out)) ?_
  rintro e v14 ⟨rfl, b15⟩
  have N17 : Hid (Cl v14 w.heap.size #[.int .i64 n0, .int .i64 n1, .int .i64 n2, .int .i64 n3, .int .i64 n4] 23) := Cl.on N11.out b15
  have N18 : Hid (Cl v14 q2 #[.int .i64 m0, .int .i64 m1, .int .i64 m2, .int .i64 m3, .int .i64 m4] 23) := Cl.on N12.out b15
  have B16 : Hid (Below w.heap.size w v14) := B10.out.trans (b15.mono B10.out.size)
  clear b15 N11 N12 B10
  obtain ⟨c19_0, c19_1, c19_2, c19_3, c19_4⟩ := N18.out.five
  go_wp2_with fail
  clear c19_0 c19_1 c19_2 c19_3 c19_4
  refine Calls.mono (E2.out _ (TAB.out.below B16.out)) ?_
  rintro e v20 ⟨rfl, b21⟩
  have N23 : Hid (Cl v20 w.heap.size #[.int .i64 n0, .int .i64 n1, .int .i64 n2, .int .i64 n3, .int .i64 n4] 23) := Cl.on N17.out b21
  have N24 : Hid (Cl v20 q2 #[.int .i64 m0, .int .i64 m1, .int .i64 m2, .int .i64 m3, .int .i64 m4] 23) := Cl.on N18.out b21
  have B22 : Hid (Below w.heap.size w v20) := B16.out.trans (b21.mono B16.out.size)
  clear b21 N17 N18 B16
  obtain ⟨c25_0, c25_1, c25_2, c25_3, c25_4⟩ := N23.out.five
  obtain ⟨c26_0, c26_1, c26_2, c26_3, c26_4⟩ := N24.out.five
  go_upto_region 11 with fail
  clear c25_0 c25_1 c25_2 c25_3 c25_4 c26_0 c26_1 c26_2 c26_3 c26_4
  go_cut [13, 14] (fun t13 t14 wx => ∃ q : Nat, t13 = .pointer (some ⟨q, 0, none⟩) ∧ t14 = .bool true ∧ Hid (Cl wx q #[.int .i64 m0, .int .i64 m1, .int .i64 m2, .int .i64 m3, .int .i64 m4] 23 ∧ Cl wx w.heap.size #[.int .i64 n0, .int .i64 n1, .int .i64 n2, .int .i64 n3, .int .i64 n4] 23 ∧ Cl wx q2 #[.int .i64 m0, .int .i64 m1, .int .i64 m2, .int .i64 m3, .int .i64 m4] 23 ∧ Below w.heap.size w wx))
  case first =>
    have TA : Hid (Tab v20.drew) := TAB.out.below B22.out.drew
    have TB : Hid (Tab (v20.alloc (.cells #[.int .i64 0, .int .i64 0, .int .i64 0, .int .i64 0, .int .i64 0] 23)).drew) := TAB.out.below (B22.out.alloc B22.out.size _).drew
    have BA : Hid (Below w.heap.size w v20.drew) := B22.out.drew
    have BB : Hid (Below w.heap.size w (v20.alloc (.cells #[.int .i64 0, .int .i64 0, .int .i64 0, .int .i64 0, .int .i64 0] 23)).drew) := (B22.out.alloc B22.out.size _).drew
    have ZB : Hid (Cl (v20.alloc (.cells #[.int .i64 0, .int .i64 0, .int .i64 0, .int .i64 0, .int .i64 0] 23)).drew v20.heap.size #[.int .i64 0, .int .i64 0, .int .i64 0, .int .i64 0, .int .i64 0] 23) := Cl.new v20 _ _
    have Aa : Hid (Cl v20.drew w.heap.size #[.int .i64 n0, .int .i64 n1, .int .i64 n2, .int .i64 n3, .int .i64 n4] 23) := N23.out
    have Ba : Hid (Cl (v20.alloc (.cells #[.int .i64 0, .int .i64 0, .int .i64 0, .int .i64 0, .int .i64 0] 23)).drew w.heap.size #[.int .i64 n0, .int .i64 n1, .int .i64 n2, .int .i64 n3, .int .i64 n4] 23) := Cl.alloc N23.out _
    have Xa : Hid (w.heap.size ≠ v20.heap.size) := Nat.ne_of_lt (Cl.lt N23.out)
    have Ab : Hid (Cl v20.drew q2 #[.int .i64 m0, .int .i64 m1, .int .i64 m2, .int .i64 m3, .int .i64 m4] 23) := N24.out
    have Bb : Hid (Cl (v20.alloc (.cells #[.int .i64 0, .int .i64 0, .int .i64 0, .int .i64 0, .int .i64 0] 23)).drew q2 #[.int .i64 m0, .int .i64 m1, .int .i64 m2, .int .i64 m3, .int .i64 m4] 23) := Cl.alloc N24.out _
    have Xb : Hid (q2 ≠ v20.heap.size) := Nat.ne_of_lt (Cl.lt N24.out)
    go_region_held3 (fun _ => True) (trivial) ((first | (go_at_call_of 12 (Value.string X); refine Calls.mono (DX.out v20.drew TA.out) ?_; rintro e u ⟨rfl, bu⟩; have UB : Hid (Below w.heap.size w u) := BA.out.trans (bu.mono BA.out.size); have Ua : Hid (Cl u w.heap.size #[.int .i64 n0, .int .i64 n1, .int .i64 n2, .int .i64 n3, .int .i64 n4] 23) := Cl.on Aa.out bu; have Ub : Hid (Cl u q2 #[.int .i64 m0, .int .i64 m1, .int .i64 m2, .int .i64 m3, .int .i64 m4] 23) := Cl.on Ab.out bu; clear bu) | (go_at_call_of 12 (Value.string X); refine Calls.mono (DX.out (v20.alloc (.cells #[.int .i64 0, .int .i64 0, .int .i64 0, .int .i64 0, .int .i64 0] 23)).drew TB.out) ?_; rintro e u ⟨rfl, bu⟩; have UB : Hid (Below w.heap.size w u) := BB.out.trans (bu.mono BB.out.size); have Ua : Hid (Cl u w.heap.size #[.int .i64 n0, .int .i64 n1, .int .i64 n2, .int .i64 n3, .int .i64 n4] 23) := Cl.on Ba.out bu; have Ub : Hid (Cl u q2 #[.int .i64 m0, .int .i64 m1, .int .i64 m2, .int .i64 m3, .int .i64 m4] 23) := Cl.on Bb.out bu; have Uz : Hid (Cl u v20.heap.size #[.int .i64 0, .int .i64 0, .int .i64 0, .int .i64 0, .int .i64 0] 23) := Cl.on ZB.out bu; clear bu; obtain ⟨y0, y1, y2, y3, y4⟩ := Uz.out.five; have f0 := Uz.out.frozen 0; have f1 := Uz.out.frozen 1; have f2 := Uz.out.frozen 2; have f3 := Uz.out.frozen 3; have f4 := Uz.out.frozen 4)))
    all_goals (go_wp2_with fail; go_meet)
    · exact ⟨_, rfl, rfl, Cl.new u _ _, Cl.alloc Ua.out _, Cl.alloc Ub.out _, UB.out.alloc UB.out.size _⟩
    · exact ⟨_, rfl, rfl, Cl.set5 Uz.out _ _ _ _ _, Cl.only Ua.out (only_set5 u _ _ _ _ _ _) Xa.out, Cl.only Ub.out (only_set5 u _ _ _ _ _ _) Xb.out, UB.out.trans ((only_set5 u _ _ _ _ _ _).below B22.out.size)⟩
  case rest =>
  obtain ⟨q, rfl, rfl, H⟩ := hcut
  have Nr : Hid (Cl wc q #[.int .i64 m0, .int .i64 m1, .int .i64 m2, .int .i64 m3, .int .i64 m4] 23) := H.out.1
  have Na : Hid (Cl wc w.heap.size #[.int .i64 n0, .int .i64 n1, .int .i64 n2, .int .i64 n3, .int .i64 n4] 23) := H.out.2.1
  have Nb : Hid (Cl wc q2 #[.int .i64 m0, .int .i64 m1, .int .i64 m2, .int .i64 m3, .int .i64 m4] 23) := H.out.2.2.1
  have Bc : Hid (Below w.heap.size w wc) := H.out.2.2.2
  clear H N23 N24 B22
  go_wp2_with fail
  refine Calls.mono (D1.out _ (TAB.out.below Bc.out)) ?_
  rintro e v27 ⟨rfl, b28⟩
  have N30 : Hid (Cl v27 w.heap.size #[.int .i64 n0, .int .i64 n1, .int .i64 n2, .int .i64 n3, .int .i64 n4] 23) := Cl.on Na.out b28
  have N31 : Hid (Cl v27 q2 #[.int .i64 m0, .int .i64 m1, .int .i64 m2, .int .i64 m3, .int .i64 m4] 23) := Cl.on Nb.out b28
  have N32 : Hid (Cl v27 q #[.int .i64 m0, .int .i64 m1, .int .i64 m2, .int .i64 m3, .int .i64 m4] 23) := Cl.on Nr.out b28
  have B29 : Hid (Below w.heap.size w v27) := Bc.out.trans (b28.mono Bc.out.size)
  clear b28 Na Nb Nr Bc
  go_wp2_with fail
  have N36 : Hid (Cl (v27.alloc (.cells #[.int .i64 n0, .int .i64 n1, .int .i64 n2, .int .i64 n3, .int .i64 n4] 23)) v27.heap.size #[.int .i64 n0, .int .i64 n1, .int .i64 n2, .int .i64 n3, .int .i64 n4] 23) := Cl.new v27 #[.int .i64 n0, .int .i64 n1, .int .i64 n2, .int .i64 n3, .int .i64 n4] 23
  have B35 : Hid (Below w.heap.size w (v27.alloc (.cells #[.int .i64 n0, .int .i64 n1, .int .i64 n2, .int .i64 n3, .int .i64 n4] 23))) := B29.out.alloc B29.out.size _
  have L37 : Hid (w.heap.size ≤ v27.heap.size) := B29.out.size
  have N38 : Hid (Cl (v27.alloc (.cells #[.int .i64 n0, .int .i64 n1, .int .i64 n2, .int .i64 n3, .int .i64 n4] 23)) w.heap.size #[.int .i64 n0, .int .i64 n1, .int .i64 n2, .int .i64 n3, .int .i64 n4] 23) := Cl.alloc N30.out _
  have N39 : Hid (Cl (v27.alloc (.cells #[.int .i64 n0, .int .i64 n1, .int .i64 n2, .int .i64 n3, .int .i64 n4] 23)) q2 #[.int .i64 m0, .int .i64 m1, .int .i64 m2, .int .i64 m3, .int .i64 m4] 23) := Cl.alloc N31.out _
  have N40 : Hid (Cl (v27.alloc (.cells #[.int .i64 n0, .int .i64 n1, .int .i64 n2, .int .i64 n3, .int .i64 n4] 23)) q #[.int .i64 m0, .int .i64 m1, .int .i64 m2, .int .i64 m3, .int .i64 m4] 23) := Cl.alloc N32.out _
  clear N30 N31 N32 B29
  generalize v27.alloc (.cells #[.int .i64 n0, .int .i64 n1, .int .i64 n2, .int .i64 n3, .int .i64 n4] 23) = v33 at *
  generalize v27.heap.size = q34 at *
  refine Calls.mono (D2.out _ (TAB.out.below B35.out)) ?_
  rintro e v41 ⟨rfl, b42⟩
  have N44 : Hid (Cl v41 w.heap.size #[.int .i64 n0, .int .i64 n1, .int .i64 n2, .int .i64 n3, .int .i64 n4] 23) := Cl.on N38.out b42
  have N45 : Hid (Cl v41 q2 #[.int .i64 m0, .int .i64 m1, .int .i64 m2, .int .i64 m3, .int .i64 m4] 23) := Cl.on N39.out b42
  have N46 : Hid (Cl v41 q #[.int .i64 m0, .int .i64 m1, .int .i64 m2, .int .i64 m3, .int .i64 m4] 23) := Cl.on N40.out b42
  have N47 : Hid (Cl v41 q34 #[.int .i64 n0, .int .i64 n1, .int .i64 n2, .int .i64 n3, .int .i64 n4] 23) := Cl.on N36.out b42
  have B43 : Hid (Below w.heap.size w v41) := B35.out.trans (b42.mono B35.out.size)
  clear b42 N38 N39 N40 N36 B35
  go_upto_region 14 with fail
  have N51 : Hid (Cl (v41.alloc (.cells #[.int .i64 m0, .int .i64 m1, .int .i64 m2, .int .i64 m3, .int .i64 m4] 23)) v41.heap.size #[.int .i64 m0, .int .i64 m1, .int .i64 m2, .int .i64 m3, .int .i64 m4] 23) := Cl.new v41 #[.int .i64 m0, .int .i64 m1, .int .i64 m2, .int .i64 m3, .int .i64 m4] 23
  have B50 : Hid (Below w.heap.size w (v41.alloc (.cells #[.int .i64 m0, .int .i64 m1, .int .i64 m2, .int .i64 m3, .int .i64 m4] 23))) := B43.out.alloc B43.out.size _
  have L52 : Hid (w.heap.size ≤ v41.heap.size) := B43.out.size
  have N53 : Hid (Cl (v41.alloc (.cells #[.int .i64 m0, .int .i64 m1, .int .i64 m2, .int .i64 m3, .int .i64 m4] 23)) w.heap.size #[.int .i64 n0, .int .i64 n1, .int .i64 n2, .int .i64 n3, .int .i64 n4] 23) := Cl.alloc N44.out _
  have N54 : Hid (Cl (v41.alloc (.cells #[.int .i64 m0, .int .i64 m1, .int .i64 m2, .int .i64 m3, .int .i64 m4] 23)) q2 #[.int .i64 m0, .int .i64 m1, .int .i64 m2, .int .i64 m3, .int .i64 m4] 23) := Cl.alloc N45.out _
  have N55 : Hid (Cl (v41.alloc (.cells #[.int .i64 m0, .int .i64 m1, .int .i64 m2, .int .i64 m3, .int .i64 m4] 23)) q #[.int .i64 m0, .int .i64 m1, .int .i64 m2, .int .i64 m3, .int .i64 m4] 23) := Cl.alloc N46.out _
  have N56 : Hid (Cl (v41.alloc (.cells #[.int .i64 m0, .int .i64 m1, .int .i64 m2, .int .i64 m3, .int .i64 m4] 23)) q34 #[.int .i64 n0, .int .i64 n1, .int .i64 n2, .int .i64 n3, .int .i64 n4] 23) := Cl.alloc N47.out _
  clear N44 N45 N46 N47 B43
  generalize v41.alloc (.cells #[.int .i64 m0, .int .i64 m1, .int .i64 m2, .int .i64 m3, .int .i64 m4] 23) = v48 at *
  generalize v41.heap.size = q49 at *
  obtain ⟨c57_0, c57_1, c57_2, c57_3, c57_4⟩ := N53.out.five
  obtain ⟨c58_0, c58_1, c58_2, c58_3, c58_4⟩ := N54.out.five
  obtain ⟨c59_0, c59_1, c59_2, c59_3, c59_4⟩ := N55.out.five
  obtain ⟨c60_0, c60_1, c60_2, c60_3, c60_4⟩ := N56.out.five
  obtain ⟨c61_0, c61_1, c61_2, c61_3, c61_4⟩ := N51.out.five
  go_wp2
  go_ret
  exact ⟨rfl, B50.out⟩

theorem torn_at0 (a b : Rt) : (slotL b).take 0 ++ (slotL a).drop 0 = slotL a := by rw [List.take_zero, List.drop_zero, List.nil_append]
theorem torn_at256 (a b : Rt) : (slotL b).take 256 ++ (slotL a).drop 256 = slotL b := by
  rw [List.take_of_length_le (Nat.le_of_eq (slotL_length b)), List.drop_of_length_le (Nat.le_of_eq (slotL_length a)), List.append_nil]
theorem torn_walk (a b : Rt) (cut : Int) (w : World) (T : Tab w) (_ : a.wf) (_ : b.wf) (_ : -9223372036854775808 ≤ cut ∧ cut ≤ 9223372036854775807) : Calls Tryd.prog 5 #[rtV a, rtV b, .int .i64 cut] w fun e w' => e = .returned (.bool true) ∧ Below w.heap.size w w' := by
  cases ha : a.ok
  · exact torn_no1 a b cut w T ha
  · cases hb : b.ok
    · exact torn_no2 a b cut w T ha hb
    · by_cases he : a.ep = b.ep
      · exact torn_same a b cut w T ha hb he
      · obtain ⟨k, hk⟩ : ∃ k : Nat, min (max cut 0) 256 = (k : Int) := ⟨(min (max cut 0) 256).toNat, by omega⟩
        have hk2 : k ≤ 256 := by omega
        by_cases hz0 : k = 0
        · have hd : decB ((slotL b).take k ++ (slotL a).drop k) = true := by rw [hz0, torn_at0]; exact decB_slot ha
          have hr : decR ((slotL b).take k ++ (slotL a).drop k) = a := by rw [hz0, torn_at0]; exact decR_slot ha
          exact torn_oldz a b cut w T ha hb he k hk2 hk hz0 (by omega) hd hr
        · by_cases hz1 : k = 256
          · have hd : decB ((slotL b).take k ++ (slotL a).drop k) = true := by rw [hz1, torn_at256]; exact decB_slot hb
            have hr : decR ((slotL b).take k ++ (slotL a).drop k) = b := by rw [hz1, torn_at256]; exact decR_slot hb
            exact torn_newf a b cut w T ha hb he k hk2 hk hz0 hz1 hd hr
          · cases hd : decB ((slotL b).take k ++ (slotL a).drop k)
            · exact torn_none a b cut w T ha hb he k hk2 hk hz0 hz1 hd
            · rcases torn_dec ha hb he k hk2 hd with hr | hr
              · exact torn_oldm a b cut w T ha hb he k hk2 hk hz0 hz1 hd hr
              · exact torn_newm a b cut w T ha hb he k hk2 hk hz0 hz1 hd hr

end Go.Proofs.YtalljfckjkbieaaDoor

/-
  The walk of the law RootEncodes: a root's bytes are just what the document says, or refused; and any bytes are a root, or none.
-/
import Derived.Test.YtalljfckjkbieaaDoorRsWorks
import Derived.Test.YtalljfckjkbieaaDoorRsRef2
namespace Go.Proofs.YtalljfckjkbieaaDoor
open Go.RowKit
set_option linter.unusedVariables false

set_option maxRecDepth 100000 in
set_option maxHeartbeats 2000000 in
theorem encodes_long (r : Rt) (s : ByteArray) (w : World) (T : Tab w) (hm : s.size ≤ maxLen) (h1 : 1000 < s.size) : Calls Tryd.prog 3 #[rtV r, .string s] w fun e w' => e = .returned (.bool true) ∧ Below w.heap.size w w' := by
  have CW : Hid (∀ u, Tab u → Calls Tryd.prog 9 #[] u fun e w' => e = .returned (.bool true) ∧ Below u.heap.size u w') := works_any
  have TAB : Hid (Tab w) := T
  unfold maxLen at hm
  clear T
  obtain ⟨n0, n1, n2, n3, n4⟩ := r
  unfold rtV
  dsimp only
  go_enter Tryd.func3, Tryd.ntmps3
  go_wp2_with fail
  have N4 : Hid (Cl (w.alloc (.cells #[.int .i64 n0, .int .i64 n1, .int .i64 n2, .int .i64 n3, .int .i64 n4] 23)) w.heap.size #[.int .i64 n0, .int .i64 n1, .int .i64 n2, .int .i64 n3, .int .i64 n4] 23) := Cl.new w #[.int .i64 n0, .int .i64 n1, .int .i64 n2, .int .i64 n3, .int .i64 n4] 23
  have B3 : Hid (Below w.heap.size w (w.alloc (.cells #[.int .i64 n0, .int .i64 n1, .int .i64 n2, .int .i64 n3, .int .i64 n4] 23))) := (Below.refl _ _).alloc (Nat.le_refl _) _
  have L5 : Hid (w.heap.size ≤ w.heap.size) := Nat.le_refl _
  generalize w.alloc (.cells #[.int .i64 n0, .int .i64 n1, .int .i64 n2, .int .i64 n3, .int .i64 n4] 23) = v1 at *
  refine Calls.mono (CW.out _ (TAB.out.below B3.out)) ?_
  rintro e v6 ⟨rfl, b7⟩
  have N9 : Hid (Cl v6 w.heap.size #[.int .i64 n0, .int .i64 n1, .int .i64 n2, .int .i64 n3, .int .i64 n4] 23) := Cl.on N4.out b7
  have B8 : Hid (Below w.heap.size w v6) := B3.out.trans (b7.mono B3.out.size)
  clear b7 N4 B3
  go_wp2
  go_ret
  exact ⟨rfl, B8.out⟩

set_option maxRecDepth 100000 in
set_option maxHeartbeats 2000000 in
theorem encodes_yes (r : Rt) (s : ByteArray) (w : World) (T : Tab w) (hw : r.wf) (hm : s.size ≤ maxLen) (h1 : ¬ 1000 < s.size) (hr : r.ok = true) : Calls Tryd.prog 3 #[rtV r, .string s] w fun e w' => e = .returned (.bool true) ∧ Below w.heap.size w w' := by
  have CW : Hid (∀ u, Tab u → Calls Tryd.prog 9 #[] u fun e w' => e = .returned (.bool true) ∧ Below u.heap.size u w') := works_any
  have TAB : Hid (Tab w) := T
  have D1 : Hid (∀ u, Tab u → Calls Tryd.prog 12 #[.string s] u fun e w' => e = .returned (.tuple #[rtV (decR s.data.toList), .bool (decB s.data.toList)]) ∧ Below u.heap.size u w') := fun u hu => dec_any s hm u hu
  have D2 : Hid (∀ u, Calls Tryd.prog 13 #[.string s] u fun e w' => e = .returned (.tuple #[rtV (decR s.data.toList), .bool (decB s.data.toList)]) ∧ Below u.heap.size u w') := fun u => rdec_any s hm u
  generalize decR s.data.toList = x at *
  generalize decB s.data.toList = p at *
  have E1 : Hid (∀ u, Tab u → Calls Tryd.prog 10 #[rtV r] u fun e w' => e = .returned (.tuple #[.string ⟨(slotL r).toArray⟩, .int .i64 0]) ∧ Below u.heap.size u w') := fun u hu => enc_yes hr u hu
  have E2 : Hid (∀ u, Calls Tryd.prog 11 #[rtV r] u fun e w' => e = .returned (.tuple #[.string ⟨(slotL r).toArray⟩, .bool true]) ∧ Below u.heap.size u w') := fun u => by
    have := renc_any r hw u
    rw [encS_ok hr, hr] at this
    exact this
  have D3 : Hid (∀ u, Tab u → Calls Tryd.prog 12 #[.string ⟨(slotL r).toArray⟩] u fun e w' => e = .returned (.tuple #[rtV r, .bool true]) ∧ Below u.heap.size u w') := fun u hu => dec_to (slotL r) (slot_small r) r true (decR_slot hr) (decB_slot hr) u hu
  generalize (⟨(slotL r).toArray⟩ : ByteArray) = A at *
  unfold maxLen at hm
  clear T hw hr
  obtain ⟨n0, n1, n2, n3, n4⟩ := r
  obtain ⟨m0, m1, m2, m3, m4⟩ := x
  unfold rtV at *
  (try unfold rt0 at *)
  dsimp only at *
  go_enter Tryd.func3, Tryd.ntmps3
  go_wp2_with fail
  have N4 : Hid (Cl (w.alloc (.cells #[.int .i64 n0, .int .i64 n1, .int .i64 n2, .int .i64 n3, .int .i64 n4] 23)) w.heap.size #[.int .i64 n0, .int .i64 n1, .int .i64 n2, .int .i64 n3, .int .i64 n4] 23) := Cl.new w #[.int .i64 n0, .int .i64 n1, .int .i64 n2, .int .i64 n3, .int .i64 n4] 23
  have B3 : Hid (Below w.heap.size w (w.alloc (.cells #[.int .i64 n0, .int .i64 n1, .int .i64 n2, .int .i64 n3, .int .i64 n4] 23))) := (Below.refl _ _).alloc (Nat.le_refl _) _
  have L5 : Hid (w.heap.size ≤ w.heap.size) := Nat.le_refl _
  generalize w.alloc (.cells #[.int .i64 n0, .int .i64 n1, .int .i64 n2, .int .i64 n3, .int .i64 n4] 23) = v1 at *
  refine Calls.mono (CW.out _ (TAB.out.below B3.out)) ?_
  rintro e v6 ⟨rfl, b7⟩
  have N9 : Hid (Cl v6 w.heap.size #[.int .i64 n0, .int .i64 n1, .int .i64 n2, .int .i64 n3, .int .i64 n4] 23) := Cl.on N4.out b7
  have B8 : Hid (Below w.heap.size w v6) := B3.out.trans (b7.mono B3.out.size)
  clear b7 N4 B3
  obtain ⟨c10_0, c10_1, c10_2, c10_3, c10_4⟩ := N9.out.five
  go_wp2_with fail
  clear c10_0 c10_1 c10_2 c10_3 c10_4
  refine Calls.mono (E1.out _ (TAB.out.below B8.out)) ?_
  rintro e v11 ⟨rfl, b12⟩
  have N14 : Hid (Cl v11 w.heap.size #[.int .i64 n0, .int .i64 n1, .int .i64 n2, .int .i64 n3, .int .i64 n4] 23) := Cl.on N9.out b12
  have B13 : Hid (Below w.heap.size w v11) := B8.out.trans (b12.mono B8.out.size)
  clear b12 N9 B8
  obtain ⟨c15_0, c15_1, c15_2, c15_3, c15_4⟩ := N14.out.five
  go_wp2_with fail
  clear c15_0 c15_1 c15_2 c15_3 c15_4
  refine Calls.mono (E2.out _) ?_
  rintro e v16 ⟨rfl, b17⟩
  have N19 : Hid (Cl v16 w.heap.size #[.int .i64 n0, .int .i64 n1, .int .i64 n2, .int .i64 n3, .int .i64 n4] 23) := Cl.on N14.out b17
  have B18 : Hid (Below w.heap.size w v16) := B13.out.trans (b17.mono B13.out.size)
  clear b17 N14 B13
  go_wp2_with fail
  refine Calls.mono (D1.out _ (TAB.out.below B18.out)) ?_
  rintro e v20 ⟨rfl, b21⟩
  have N23 : Hid (Cl v20 w.heap.size #[.int .i64 n0, .int .i64 n1, .int .i64 n2, .int .i64 n3, .int .i64 n4] 23) := Cl.on N19.out b21
  have B22 : Hid (Below w.heap.size w v20) := B18.out.trans (b21.mono B18.out.size)
  clear b21 N19 B18
  go_wp2_with fail
  have N27 : Hid (Cl (v20.alloc (.cells #[.int .i64 m0, .int .i64 m1, .int .i64 m2, .int .i64 m3, .int .i64 m4] 23)) v20.heap.size #[.int .i64 m0, .int .i64 m1, .int .i64 m2, .int .i64 m3, .int .i64 m4] 23) := Cl.new v20 #[.int .i64 m0, .int .i64 m1, .int .i64 m2, .int .i64 m3, .int .i64 m4] 23
  have B26 : Hid (Below w.heap.size w (v20.alloc (.cells #[.int .i64 m0, .int .i64 m1, .int .i64 m2, .int .i64 m3, .int .i64 m4] 23))) := B22.out.alloc B22.out.size _
  have L28 : Hid (w.heap.size ≤ v20.heap.size) := B22.out.size
  have N29 : Hid (Cl (v20.alloc (.cells #[.int .i64 m0, .int .i64 m1, .int .i64 m2, .int .i64 m3, .int .i64 m4] 23)) w.heap.size #[.int .i64 n0, .int .i64 n1, .int .i64 n2, .int .i64 n3, .int .i64 n4] 23) := Cl.alloc N23.out _
  clear N23 B22
  generalize v20.alloc (.cells #[.int .i64 m0, .int .i64 m1, .int .i64 m2, .int .i64 m3, .int .i64 m4] 23) = v24 at *
  generalize v20.heap.size = q25 at *
  refine Calls.mono (D2.out _) ?_
  rintro e v30 ⟨rfl, b31⟩
  have N33 : Hid (Cl v30 w.heap.size #[.int .i64 n0, .int .i64 n1, .int .i64 n2, .int .i64 n3, .int .i64 n4] 23) := Cl.on N29.out b31
  have N34 : Hid (Cl v30 q25 #[.int .i64 m0, .int .i64 m1, .int .i64 m2, .int .i64 m3, .int .i64 m4] 23) := Cl.on N27.out b31
  have B32 : Hid (Below w.heap.size w v30) := B26.out.trans (b31.mono B26.out.size)
  clear b31 N29 N27 B26
  go_wp2_with fail
  have N38 : Hid (Cl (v30.alloc (.cells #[.int .i64 m0, .int .i64 m1, .int .i64 m2, .int .i64 m3, .int .i64 m4] 23)) v30.heap.size #[.int .i64 m0, .int .i64 m1, .int .i64 m2, .int .i64 m3, .int .i64 m4] 23) := Cl.new v30 #[.int .i64 m0, .int .i64 m1, .int .i64 m2, .int .i64 m3, .int .i64 m4] 23
  have B37 : Hid (Below w.heap.size w (v30.alloc (.cells #[.int .i64 m0, .int .i64 m1, .int .i64 m2, .int .i64 m3, .int .i64 m4] 23))) := B32.out.alloc B32.out.size _
  have L39 : Hid (w.heap.size ≤ v30.heap.size) := B32.out.size
  have N40 : Hid (Cl (v30.alloc (.cells #[.int .i64 m0, .int .i64 m1, .int .i64 m2, .int .i64 m3, .int .i64 m4] 23)) w.heap.size #[.int .i64 n0, .int .i64 n1, .int .i64 n2, .int .i64 n3, .int .i64 n4] 23) := Cl.alloc N33.out _
  have N41 : Hid (Cl (v30.alloc (.cells #[.int .i64 m0, .int .i64 m1, .int .i64 m2, .int .i64 m3, .int .i64 m4] 23)) q25 #[.int .i64 m0, .int .i64 m1, .int .i64 m2, .int .i64 m3, .int .i64 m4] 23) := Cl.alloc N34.out _
  clear N33 N34 B32
  generalize v30.alloc (.cells #[.int .i64 m0, .int .i64 m1, .int .i64 m2, .int .i64 m3, .int .i64 m4] 23) = v35 at *
  generalize v30.heap.size = q36 at *
  refine Calls.mono (D3.out _ (TAB.out.below B37.out)) ?_
  rintro e v42 ⟨rfl, b43⟩
  have N45 : Hid (Cl v42 w.heap.size #[.int .i64 n0, .int .i64 n1, .int .i64 n2, .int .i64 n3, .int .i64 n4] 23) := Cl.on N40.out b43
  have N46 : Hid (Cl v42 q25 #[.int .i64 m0, .int .i64 m1, .int .i64 m2, .int .i64 m3, .int .i64 m4] 23) := Cl.on N41.out b43
  have N47 : Hid (Cl v42 q36 #[.int .i64 m0, .int .i64 m1, .int .i64 m2, .int .i64 m3, .int .i64 m4] 23) := Cl.on N38.out b43
  have B44 : Hid (Below w.heap.size w v42) := B37.out.trans (b43.mono B37.out.size)
  clear b43 N40 N41 N38 B37
  go_upto_region 13 with fail
  have N51 : Hid (Cl (v42.alloc (.cells #[.int .i64 n0, .int .i64 n1, .int .i64 n2, .int .i64 n3, .int .i64 n4] 23)) v42.heap.size #[.int .i64 n0, .int .i64 n1, .int .i64 n2, .int .i64 n3, .int .i64 n4] 23) := Cl.new v42 #[.int .i64 n0, .int .i64 n1, .int .i64 n2, .int .i64 n3, .int .i64 n4] 23
  have B50 : Hid (Below w.heap.size w (v42.alloc (.cells #[.int .i64 n0, .int .i64 n1, .int .i64 n2, .int .i64 n3, .int .i64 n4] 23))) := B44.out.alloc B44.out.size _
  have L52 : Hid (w.heap.size ≤ v42.heap.size) := B44.out.size
  have N53 : Hid (Cl (v42.alloc (.cells #[.int .i64 n0, .int .i64 n1, .int .i64 n2, .int .i64 n3, .int .i64 n4] 23)) w.heap.size #[.int .i64 n0, .int .i64 n1, .int .i64 n2, .int .i64 n3, .int .i64 n4] 23) := Cl.alloc N45.out _
  have N54 : Hid (Cl (v42.alloc (.cells #[.int .i64 n0, .int .i64 n1, .int .i64 n2, .int .i64 n3, .int .i64 n4] 23)) q25 #[.int .i64 m0, .int .i64 m1, .int .i64 m2, .int .i64 m3, .int .i64 m4] 23) := Cl.alloc N46.out _
  have N55 : Hid (Cl (v42.alloc (.cells #[.int .i64 n0, .int .i64 n1, .int .i64 n2, .int .i64 n3, .int .i64 n4] 23)) q36 #[.int .i64 m0, .int .i64 m1, .int .i64 m2, .int .i64 m3, .int .i64 m4] 23) := Cl.alloc N47.out _
  clear N45 N46 N47 B44
  generalize v42.alloc (.cells #[.int .i64 n0, .int .i64 n1, .int .i64 n2, .int .i64 n3, .int .i64 n4] 23) = v48 at *
  generalize v42.heap.size = q49 at *
  obtain ⟨c56_0, c56_1, c56_2, c56_3, c56_4⟩ := N53.out.five
  obtain ⟨c57_0, c57_1, c57_2, c57_3, c57_4⟩ := N54.out.five
  obtain ⟨c58_0, c58_1, c58_2, c58_3, c58_4⟩ := N55.out.five
  obtain ⟨c59_0, c59_1, c59_2, c59_3, c59_4⟩ := N51.out.five
  go_wp2
  go_ret
  exact ⟨rfl, B50.out⟩

set_option maxRecDepth 100000 in
set_option maxHeartbeats 2000000 in
theorem encodes_no (r : Rt) (s : ByteArray) (w : World) (T : Tab w) (hw : r.wf) (hm : s.size ≤ maxLen) (h1 : ¬ 1000 < s.size) (hr : r.ok = false) : Calls Tryd.prog 3 #[rtV r, .string s] w fun e w' => e = .returned (.bool true) ∧ Below w.heap.size w w' := by
  have CW : Hid (∀ u, Tab u → Calls Tryd.prog 9 #[] u fun e w' => e = .returned (.bool true) ∧ Below u.heap.size u w') := works_any
  have TAB : Hid (Tab w) := T
  have D1 : Hid (∀ u, Tab u → Calls Tryd.prog 12 #[.string s] u fun e w' => e = .returned (.tuple #[rtV (decR s.data.toList), .bool (decB s.data.toList)]) ∧ Below u.heap.size u w') := fun u hu => dec_any s hm u hu
  have D2 : Hid (∀ u, Calls Tryd.prog 13 #[.string s] u fun e w' => e = .returned (.tuple #[rtV (decR s.data.toList), .bool (decB s.data.toList)]) ∧ Below u.heap.size u w') := fun u => rdec_any s hm u
  generalize decR s.data.toList = x at *
  generalize decB s.data.toList = p at *
  have E1 : Hid (∀ u, Tab u → Calls Tryd.prog 10 #[rtV r] u fun e w' => e = .returned (.tuple #[.string ⟨#[]⟩, .int .i64 1]) ∧ Below u.heap.size u w') := fun u hu => enc_not hr u hu
  have E2 : Hid (∀ u, Calls Tryd.prog 11 #[rtV r] u fun e w' => e = .returned (.tuple #[.string ⟨#[]⟩, .bool false]) ∧ Below u.heap.size u w') := fun u => by
    have := renc_any r hw u
    rw [encS_no hr, hr] at this
    exact this
  have D3 : Hid (∀ u, Tab u → Calls Tryd.prog 12 #[.string ⟨#[]⟩] u fun e w' => e = .returned (.tuple #[rtV rt0, .bool false]) ∧ Below u.heap.size u w') := fun u hu => dec_to [] nil_small rt0 false (decR_no dec_empty) dec_empty u hu
  unfold maxLen at hm
  clear T hw hr
  obtain ⟨n0, n1, n2, n3, n4⟩ := r
  obtain ⟨m0, m1, m2, m3, m4⟩ := x
  unfold rtV at *
  (try unfold rt0 at *)
  dsimp only at *
  go_enter Tryd.func3, Tryd.ntmps3
  go_wp2_with fail
  have N4 : Hid (Cl (w.alloc (.cells #[.int .i64 n0, .int .i64 n1, .int .i64 n2, .int .i64 n3, .int .i64 n4] 23)) w.heap.size #[.int .i64 n0, .int .i64 n1, .int .i64 n2, .int .i64 n3, .int .i64 n4] 23) := Cl.new w #[.int .i64 n0, .int .i64 n1, .int .i64 n2, .int .i64 n3, .int .i64 n4] 23
  have B3 : Hid (Below w.heap.size w (w.alloc (.cells #[.int .i64 n0, .int .i64 n1, .int .i64 n2, .int .i64 n3, .int .i64 n4] 23))) := (Below.refl _ _).alloc (Nat.le_refl _) _
  have L5 : Hid (w.heap.size ≤ w.heap.size) := Nat.le_refl _
  generalize w.alloc (.cells #[.int .i64 n0, .int .i64 n1, .int .i64 n2, .int .i64 n3, .int .i64 n4] 23) = v1 at *
  refine Calls.mono (CW.out _ (TAB.out.below B3.out)) ?_
  rintro e v6 ⟨rfl, b7⟩
  have N9 : Hid (Cl v6 w.heap.size #[.int .i64 n0, .int .i64 n1, .int .i64 n2, .int .i64 n3, .int .i64 n4] 23) := Cl.on N4.out b7
  have B8 : Hid (Below w.heap.size w v6) := B3.out.trans (b7.mono B3.out.size)
  clear b7 N4 B3
  obtain ⟨c10_0, c10_1, c10_2, c10_3, c10_4⟩ := N9.out.five
  go_wp2_with fail
  clear c10_0 c10_1 c10_2 c10_3 c10_4
  refine Calls.mono (E1.out _ (TAB.out.below B8.out)) ?_
  rintro e v11 ⟨rfl, b12⟩
  have N14 : Hid (Cl v11 w.heap.size #[.int .i64 n0, .int .i64 n1, .int .i64 n2, .int .i64 n3, .int .i64 n4] 23) := Cl.on N9.out b12
  have B13 : Hid (Below w.heap.size w v11) := B8.out.trans (b12.mono B8.out.size)
  clear b12 N9 B8
  obtain ⟨c15_0, c15_1, c15_2, c15_3, c15_4⟩ := N14.out.five
  go_wp2_with fail
  clear c15_0 c15_1 c15_2 c15_3 c15_4
  refine Calls.mono (E2.out _) ?_
  rintro e v16 ⟨rfl, b17⟩
  have N19 : Hid (Cl v16 w.heap.size #[.int .i64 n0, .int .i64 n1, .int .i64 n2, .int .i64 n3, .int .i64 n4] 23) := Cl.on N14.out b17
  have B18 : Hid (Below w.heap.size w v16) := B13.out.trans (b17.mono B13.out.size)
  clear b17 N14 B13
  go_wp2_with fail
  refine Calls.mono (D1.out _ (TAB.out.below B18.out)) ?_
  rintro e v20 ⟨rfl, b21⟩
  have N23 : Hid (Cl v20 w.heap.size #[.int .i64 n0, .int .i64 n1, .int .i64 n2, .int .i64 n3, .int .i64 n4] 23) := Cl.on N19.out b21
  have B22 : Hid (Below w.heap.size w v20) := B18.out.trans (b21.mono B18.out.size)
  clear b21 N19 B18
  go_wp2_with fail
  have N27 : Hid (Cl (v20.alloc (.cells #[.int .i64 m0, .int .i64 m1, .int .i64 m2, .int .i64 m3, .int .i64 m4] 23)) v20.heap.size #[.int .i64 m0, .int .i64 m1, .int .i64 m2, .int .i64 m3, .int .i64 m4] 23) := Cl.new v20 #[.int .i64 m0, .int .i64 m1, .int .i64 m2, .int .i64 m3, .int .i64 m4] 23
  have B26 : Hid (Below w.heap.size w (v20.alloc (.cells #[.int .i64 m0, .int .i64 m1, .int .i64 m2, .int .i64 m3, .int .i64 m4] 23))) := B22.out.alloc B22.out.size _
  have L28 : Hid (w.heap.size ≤ v20.heap.size) := B22.out.size
  have N29 : Hid (Cl (v20.alloc (.cells #[.int .i64 m0, .int .i64 m1, .int .i64 m2, .int .i64 m3, .int .i64 m4] 23)) w.heap.size #[.int .i64 n0, .int .i64 n1, .int .i64 n2, .int .i64 n3, .int .i64 n4] 23) := Cl.alloc N23.out _
  clear N23 B22
  generalize v20.alloc (.cells #[.int .i64 m0, .int .i64 m1, .int .i64 m2, .int .i64 m3, .int .i64 m4] 23) = v24 at *
  generalize v20.heap.size = q25 at *
  refine Calls.mono (D2.out _) ?_
  rintro e v30 ⟨rfl, b31⟩
  have N33 : Hid (Cl v30 w.heap.size #[.int .i64 n0, .int .i64 n1, .int .i64 n2, .int .i64 n3, .int .i64 n4] 23) := Cl.on N29.out b31
  have N34 : Hid (Cl v30 q25 #[.int .i64 m0, .int .i64 m1, .int .i64 m2, .int .i64 m3, .int .i64 m4] 23) := Cl.on N27.out b31
  have B32 : Hid (Below w.heap.size w v30) := B26.out.trans (b31.mono B26.out.size)
  clear b31 N29 N27 B26
  go_wp2_with fail
  have N38 : Hid (Cl (v30.alloc (.cells #[.int .i64 m0, .int .i64 m1, .int .i64 m2, .int .i64 m3, .int .i64 m4] 23)) v30.heap.size #[.int .i64 m0, .int .i64 m1, .int .i64 m2, .int .i64 m3, .int .i64 m4] 23) := Cl.new v30 #[.int .i64 m0, .int .i64 m1, .int .i64 m2, .int .i64 m3, .int .i64 m4] 23
  have B37 : Hid (Below w.heap.size w (v30.alloc (.cells #[.int .i64 m0, .int .i64 m1, .int .i64 m2, .int .i64 m3, .int .i64 m4] 23))) := B32.out.alloc B32.out.size _
  have L39 : Hid (w.heap.size ≤ v30.heap.size) := B32.out.size
  have N40 : Hid (Cl (v30.alloc (.cells #[.int .i64 m0, .int .i64 m1, .int .i64 m2, .int .i64 m3, .int .i64 m4] 23)) w.heap.size #[.int .i64 n0, .int .i64 n1, .int .i64 n2, .int .i64 n3, .int .i64 n4] 23) := Cl.alloc N33.out _
  have N41 : Hid (Cl (v30.alloc (.cells #[.int .i64 m0, .int .i64 m1, .int .i64 m2, .int .i64 m3, .int .i64 m4] 23)) q25 #[.int .i64 m0, .int .i64 m1, .int .i64 m2, .int .i64 m3, .int .i64 m4] 23) := Cl.alloc N34.out _
  clear N33 N34 B32
  generalize v30.alloc (.cells #[.int .i64 m0, .int .i64 m1, .int .i64 m2, .int .i64 m3, .int .i64 m4] 23) = v35 at *
  generalize v30.heap.size = q36 at *
  refine Calls.mono (D3.out _ (TAB.out.below B37.out)) ?_
  rintro e v42 ⟨rfl, b43⟩
  have N45 : Hid (Cl v42 w.heap.size #[.int .i64 n0, .int .i64 n1, .int .i64 n2, .int .i64 n3, .int .i64 n4] 23) := Cl.on N40.out b43
  have N46 : Hid (Cl v42 q25 #[.int .i64 m0, .int .i64 m1, .int .i64 m2, .int .i64 m3, .int .i64 m4] 23) := Cl.on N41.out b43
  have N47 : Hid (Cl v42 q36 #[.int .i64 m0, .int .i64 m1, .int .i64 m2, .int .i64 m3, .int .i64 m4] 23) := Cl.on N38.out b43
  have B44 : Hid (Below w.heap.size w v42) := B37.out.trans (b43.mono B37.out.size)
  clear b43 N40 N41 N38 B37
  go_upto_region 13 with fail
  have N51 : Hid (Cl (v42.alloc (.cells #[.int .i64 0, .int .i64 0, .int .i64 0, .int .i64 0, .int .i64 0] 23)) v42.heap.size #[.int .i64 0, .int .i64 0, .int .i64 0, .int .i64 0, .int .i64 0] 23) := Cl.new v42 #[.int .i64 0, .int .i64 0, .int .i64 0, .int .i64 0, .int .i64 0] 23
  have B50 : Hid (Below w.heap.size w (v42.alloc (.cells #[.int .i64 0, .int .i64 0, .int .i64 0, .int .i64 0, .int .i64 0] 23))) := B44.out.alloc B44.out.size _
  have L52 : Hid (w.heap.size ≤ v42.heap.size) := B44.out.size
  have N53 : Hid (Cl (v42.alloc (.cells #[.int .i64 0, .int .i64 0, .int .i64 0, .int .i64 0, .int .i64 0] 23)) w.heap.size #[.int .i64 n0, .int .i64 n1, .int .i64 n2, .int .i64 n3, .int .i64 n4] 23) := Cl.alloc N45.out _
  have N54 : Hid (Cl (v42.alloc (.cells #[.int .i64 0, .int .i64 0, .int .i64 0, .int .i64 0, .int .i64 0] 23)) q25 #[.int .i64 m0, .int .i64 m1, .int .i64 m2, .int .i64 m3, .int .i64 m4] 23) := Cl.alloc N46.out _
  have N55 : Hid (Cl (v42.alloc (.cells #[.int .i64 0, .int .i64 0, .int .i64 0, .int .i64 0, .int .i64 0] 23)) q36 #[.int .i64 m0, .int .i64 m1, .int .i64 m2, .int .i64 m3, .int .i64 m4] 23) := Cl.alloc N47.out _
  clear N45 N46 N47 B44
  generalize v42.alloc (.cells #[.int .i64 0, .int .i64 0, .int .i64 0, .int .i64 0, .int .i64 0] 23) = v48 at *
  generalize v42.heap.size = q49 at *
  obtain ⟨c56_0, c56_1, c56_2, c56_3, c56_4⟩ := N53.out.five
  obtain ⟨c57_0, c57_1, c57_2, c57_3, c57_4⟩ := N54.out.five
  obtain ⟨c58_0, c58_1, c58_2, c58_3, c58_4⟩ := N55.out.five
  obtain ⟨c59_0, c59_1, c59_2, c59_3, c59_4⟩ := N51.out.five
  go_wp2
  go_ret
  exact ⟨rfl, B50.out⟩

theorem encodes_walk (r : Rt) (s : ByteArray) (w : World) (T : Tab w) (hw : r.wf) (hm : s.size ≤ maxLen) : Calls Tryd.prog 3 #[rtV r, .string s] w fun e w' => e = .returned (.bool true) ∧ Below w.heap.size w w' := by
  by_cases h1 : 1000 < s.size
  · exact encodes_long r s w T hm h1
  · cases hr : r.ok
    · exact encodes_no r s w T hw hm h1 hr
    · exact encodes_yes r s w T hw hm h1 hr

end Go.Proofs.YtalljfckjkbieaaDoor

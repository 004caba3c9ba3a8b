/-
  The walk of the law RootPicks: of two slots' bytes the newer root is picked, just as the document says.
-/
import Derived.Test.YtalljfckjkbieaaDoorRsWorks
import Derived.Test.YtalljfckjkbieaaDoorRsRef2
namespace Go.Proofs.YtalljfckjkbieaaDoor
open Go.RowKit
set_option linter.unusedVariables false

set_option maxRecDepth 100000 in
set_option maxHeartbeats 2000000 in
theorem picks_long1 (a b : ByteArray) (w : World) (T : Tab w) (ha : a.size ≤ maxLen) (hb : b.size ≤ maxLen) (h1 : 1000 < a.size) : Calls Tryd.prog 4 #[.string a, .string b] w fun e w' => e = .returned (.bool true) ∧ Below w.heap.size w w' := by
  have CW : Hid (∀ u, Tab u → Calls Tryd.prog 9 #[] u fun e w' => e = .returned (.bool true) ∧ Below u.heap.size u w') := works_any
  have TAB : Hid (Tab w) := T
  unfold maxLen at *
  clear T
  go_enter Tryd.func4, Tryd.ntmps4
  go_wp2_with fail
  refine Calls.mono (CW.out _ TAB.out) ?_
  rintro e v1 ⟨rfl, b2⟩
  have B3 : Hid (Below w.heap.size w v1) := b2
  clear b2
  go_wp2
  go_ret
  exact ⟨rfl, B3.out⟩

set_option maxRecDepth 100000 in
set_option maxHeartbeats 2000000 in
theorem picks_long2 (a b : ByteArray) (w : World) (T : Tab w) (ha : a.size ≤ maxLen) (hb : b.size ≤ maxLen) (h1 : ¬ 1000 < a.size) (h2 : 1000 < b.size) : Calls Tryd.prog 4 #[.string a, .string b] w fun e w' => e = .returned (.bool true) ∧ Below w.heap.size w w' := by
  have CW : Hid (∀ u, Tab u → Calls Tryd.prog 9 #[] u fun e w' => e = .returned (.bool true) ∧ Below u.heap.size u w') := works_any
  have TAB : Hid (Tab w) := T
  unfold maxLen at *
  clear T
  go_enter Tryd.func4, Tryd.ntmps4
  go_wp2_with fail
  refine Calls.mono (CW.out _ TAB.out) ?_
  rintro e v1 ⟨rfl, b2⟩
  have B3 : Hid (Below w.heap.size w v1) := b2
  clear b2
  go_wp2
  go_ret
  exact ⟨rfl, B3.out⟩

set_option maxRecDepth 100000 in
set_option maxHeartbeats 2000000 in
theorem picks_in (a b : ByteArray) (w : World) (T : Tab w) (ha : a.size ≤ maxLen) (hb : b.size ≤ maxLen) (h1 : ¬ 1000 < a.size) (h2 : ¬ 1000 < b.size) : Calls Tryd.prog 4 #[.string a, .string b] w fun e w' => e = .returned (.bool true) ∧ Below w.heap.size w w' := by
  have CW : Hid (∀ u, Tab u → Calls Tryd.prog 9 #[] u fun e w' => e = .returned (.bool true) ∧ Below u.heap.size u w') := works_any
  have TAB : Hid (Tab w) := T
  have P1 : Hid (∀ u, Tab u → Calls Tryd.prog 14 #[.string a, .string b] u fun e w' => e = .returned (.tuple #[rtV (pkR a.data.toList b.data.toList), .int .i64 (pkE a.data.toList b.data.toList)]) ∧ Below u.heap.size u w') := fun u hu => pick_any a b ha hb u hu
  have P2 : Hid (∀ u, Calls Tryd.prog 15 #[.string a, .string b] u fun e w' => e = .returned (.tuple #[rtV (pkR a.data.toList b.data.toList), .int .i64 (pkE a.data.toList b.data.toList)]) ∧ Below u.heap.size u w') := fun u => rpick_any a b ha hb u
  generalize pkR a.data.toList b.data.toList = x at *
  generalize pkE a.data.toList b.data.toList = er at *
  unfold maxLen at *
  clear T
  obtain ⟨m0, m1, m2, m3, m4⟩ := x
  unfold rtV at *
  dsimp only at *
  go_enter Tryd.func4, Tryd.ntmps4
  go_wp2_with fail
  refine Calls.mono (CW.out _ TAB.out) ?_
  rintro e v1 ⟨rfl, b2⟩
  have B3 : Hid (Below w.heap.size w v1) := b2
  clear b2
  go_wp2_with fail
  refine Calls.mono (P1.out _ (TAB.out.below B3.out)) ?_
  rintro e v4 ⟨rfl, b5⟩
  have B6 : Hid (Below w.heap.size w v4) := B3.out.trans (b5.mono B3.out.size)
  clear b5 B3
  go_wp2_with fail
  have N10 : Hid (Cl (v4.alloc (.cells #[.int .i64 m0, .int .i64 m1, .int .i64 m2, .int .i64 m3, .int .i64 m4] 23)) v4.heap.size #[.int .i64 m0, .int .i64 m1, .int .i64 m2, .int .i64 m3, .int .i64 m4] 23) := Cl.new v4 #[.int .i64 m0, .int .i64 m1, .int .i64 m2, .int .i64 m3, .int .i64 m4] 23
  have B9 : Hid (Below w.heap.size w (v4.alloc (.cells #[.int .i64 m0, .int .i64 m1, .int .i64 m2, .int .i64 m3, .int .i64 m4] 23))) := B6.out.alloc B6.out.size _
  have L11 : Hid (w.heap.size ≤ v4.heap.size) := B6.out.size
  clear B6
  generalize v4.alloc (.cells #[.int .i64 m0, .int .i64 m1, .int .i64 m2, .int .i64 m3, .int .i64 m4] 23) = v7 at *
  generalize v4.heap.size = q8 at *
  refine Calls.mono (P2.out _) ?_
  rintro e v12 ⟨rfl, b13⟩
  have N15 : Hid (Cl v12 q8 #[.int .i64 m0, .int .i64 m1, .int .i64 m2, .int .i64 m3, .int .i64 m4] 23) := Cl.on N10.out b13
  have B14 : Hid (Below w.heap.size w v12) := B9.out.trans (b13.mono B9.out.size)
  clear b13 N10 B9
  go_upto_region 8 with fail
  have N19 : Hid (Cl (v12.alloc (.cells #[.int .i64 m0, .int .i64 m1, .int .i64 m2, .int .i64 m3, .int .i64 m4] 23)) v12.heap.size #[.int .i64 m0, .int .i64 m1, .int .i64 m2, .int .i64 m3, .int .i64 m4] 23) := Cl.new v12 #[.int .i64 m0, .int .i64 m1, .int .i64 m2, .int .i64 m3, .int .i64 m4] 23
  have B18 : Hid (Below w.heap.size w (v12.alloc (.cells #[.int .i64 m0, .int .i64 m1, .int .i64 m2, .int .i64 m3, .int .i64 m4] 23))) := B14.out.alloc B14.out.size _
  have L20 : Hid (w.heap.size ≤ v12.heap.size) := B14.out.size
  have N21 : Hid (Cl (v12.alloc (.cells #[.int .i64 m0, .int .i64 m1, .int .i64 m2, .int .i64 m3, .int .i64 m4] 23)) q8 #[.int .i64 m0, .int .i64 m1, .int .i64 m2, .int .i64 m3, .int .i64 m4] 23) := Cl.alloc N15.out _
  clear N15 B14
  generalize v12.alloc (.cells #[.int .i64 m0, .int .i64 m1, .int .i64 m2, .int .i64 m3, .int .i64 m4] 23) = v16 at *
  generalize v12.heap.size = q17 at *
  obtain ⟨c22_0, c22_1, c22_2, c22_3, c22_4⟩ := N21.out.five
  obtain ⟨c23_0, c23_1, c23_2, c23_3, c23_4⟩ := N19.out.five
  go_wp2
  go_ret
  exact ⟨rfl, B18.out⟩

theorem picks_walk (a b : ByteArray) (w : World) (T : Tab w) (ha : a.size ≤ maxLen) (hb : b.size ≤ maxLen) : Calls Tryd.prog 4 #[.string a, .string b] w fun e w' => e = .returned (.bool true) ∧ Below w.heap.size w w' := by
  by_cases h1 : 1000 < a.size
  · exact picks_long1 a b w T ha hb h1
  · by_cases h2 : 1000 < b.size
    · exact picks_long2 a b w T ha hb h1 h2
    · exact picks_in a b w T ha hb h1 h2

end Go.Proofs.YtalljfckjkbieaaDoor

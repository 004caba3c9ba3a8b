/-
  The walk of the law PageOpens: any bytes are a page, or none, just as the document says; and whether their check is right.
-/
import Derived.Test.YtgcaffgdceljaaaDoorPgUse
import Derived.Test.YtgcaffgdceljaaaDoorPgRef
namespace Go.Proofs.YtgcaffgdceljaaaDoor
open Go.RowKit

set_option maxRecDepth 100000 in
set_option maxHeartbeats 4000000 in
theorem opens_walk (id : Int) (s : ByteArray) (w : World) (T : Tab w) (hi : -9223372036854775808 ≤ id ∧ id ≤ 9223372036854775807) (hm : s.size ≤ maxLen) :
    Calls Tryd.prog 4 #[.int .i64 id, .string s] w fun e w' => e = .returned (.bool true) ∧ Below w.heap.size w w' := by
  have TAB : Hid (Tab w) := T
  have HM : Hid (s.size ≤ maxLen) := hm
  unfold maxLen at hm
  clear T
  by_cases h1 : 2048 < s.size
  · go_enter Tryd.func4, Tryd.ntmps4
    have D : Hid _ := works_any w TAB.out
    go_wp2_with fail
    refine Calls.mono D.out ?_
    rintro e w1 ⟨rfl, b1⟩
    have B1 : Hid (Below w.heap.size w w1) := b1
    clear b1 D
    go_wp2
    go_ret
    exact ⟨rfl, B1.out⟩
  · have K1 : Hid (∀ w1, Tab w1 → Calls Tryd.prog 13 #[.string s] w1 fun e w' => e = .returned (.bool (chk s.data.toList)) ∧ Below w1.heap.size w1 w') := fun w1 t1 => check_any s w1 t1 HM.out
    have K2 : Hid (∀ w1, Calls Tryd.prog 14 #[.string s] w1 fun e w' => e = .returned (.bool (chk s.data.toList)) ∧ Below w1.heap.size w1 w') := fun w1 => refCheck_any s w1 HM.out
    have R0 : Hid (∀ w1, Calls Tryd.prog 12 #[.int .i64 id, .string s] w1 fun e w' => e = .returned (.tuple #[.int .u8 ((opn id s.data.toList).1.toNat : Int), .string ⟨(opn id s.data.toList).2.1.toArray⟩, .bool (rOpnB id s.data.toList)]) ∧ Below w1.heap.size w1 w') := fun w1 => refOpen_any id s w1 hi.2 HM.out
    have Q0 : Hid (∀ w1, Tab w1 → Calls Tryd.prog 11 #[.int .i64 id, .string s] w1 fun e w' => e = .returned (.tuple #[.int .u8 ((opn id s.data.toList).1.toNat : Int), .string ⟨(opn id s.data.toList).2.1.toArray⟩, .int .i64 (opn id s.data.toList).2.2]) ∧ Below w1.heap.size w1 w') := fun w1 t1 => open_any id s w1 t1 HM.out
    unfold rOpnB at R0
    generalize chk s.data.toList = c at *
    generalize hO : opn id s.data.toList = O at *
    clear hi
    by_cases h2 : O.2.2 = 0
    · rw [decide_eq_true h2] at R0
      rw [h2] at Q0
      generalize (⟨O.2.1.toArray⟩ : ByteArray) = G at *
      have h8 : O.1.toNat < 256 := UInt8.toNat_lt _
      generalize O.1.toNat = k at *
      clear h2 hO
      go_enter Tryd.func4, Tryd.ntmps4
      have D : Hid _ := works_any w TAB.out
      go_wp2_with fail
      refine Calls.mono D.out ?_
      rintro e w1 ⟨rfl, b1⟩
      have B1 : Hid (Below w.heap.size w w1) := b1
      clear b1 D
      have D : Hid _ := Q0.out w1 (TAB.out.below B1.out)
      go_wp2_with fail
      refine Calls.mono D.out ?_
      rintro e w2 ⟨rfl, b2⟩
      have B2 : Hid (Below w.heap.size w w2) := B1.out.trans (b2.mono B1.out.size)
      clear b2 D
      have D : Hid _ := R0.out w2
      go_wp2_with fail
      refine Calls.mono D.out ?_
      rintro e w3 ⟨rfl, b3⟩
      have B3 : Hid (Below w.heap.size w w3) := B2.out.trans (b3.mono B2.out.size)
      clear b3 D
      have D : Hid _ := K1.out w3 (TAB.out.below B3.out)
      go_wp2_with fail
      refine Calls.mono D.out ?_
      rintro e w4 ⟨rfl, b4⟩
      have B4 : Hid (Below w.heap.size w w4) := B3.out.trans (b4.mono B3.out.size)
      clear b4 D
      have D : Hid _ := K2.out w4
      go_wp2_with fail
      refine Calls.mono D.out ?_
      rintro e w5 ⟨rfl, b5⟩
      have B5 : Hid (Below w.heap.size w w5) := B4.out.trans (b5.mono B4.out.size)
      clear b5 D
      go_wp2
      go_ret
      exact ⟨rfl, B5.out⟩
    · have e3 : O = (0, [], 3) := by rw [← hO]; exact opn_nay (by rw [hO]; exact h2)
      rw [decide_eq_false h2] at R0
      rw [e3] at Q0 R0
      have R1 : Hid (∀ w1, Calls Tryd.prog 12 #[.int .i64 id, .string s] w1 fun e w' => e = .returned (.tuple #[.int .u8 0, .string ⟨#[]⟩, .bool false]) ∧ Below w1.heap.size w1 w') := R0
      have Q1 : Hid (∀ w1, Tab w1 → Calls Tryd.prog 11 #[.int .i64 id, .string s] w1 fun e w' => e = .returned (.tuple #[.int .u8 0, .string ⟨#[]⟩, .int .i64 3]) ∧ Below w1.heap.size w1 w') := Q0
      clear e3 h2 hO Q0 R0
      go_enter Tryd.func4, Tryd.ntmps4
      have D : Hid _ := works_any w TAB.out
      go_wp2_with fail
      refine Calls.mono D.out ?_
      rintro e w1 ⟨rfl, b1⟩
      have B1 : Hid (Below w.heap.size w w1) := b1
      clear b1 D
      have D : Hid _ := Q1.out w1 (TAB.out.below B1.out)
      go_wp2_with fail
      refine Calls.mono D.out ?_
      rintro e w2 ⟨rfl, b2⟩
      have B2 : Hid (Below w.heap.size w w2) := B1.out.trans (b2.mono B1.out.size)
      clear b2 D
      have D : Hid _ := R1.out w2
      go_wp2_with fail
      refine Calls.mono D.out ?_
      rintro e w3 ⟨rfl, b3⟩
      have B3 : Hid (Below w.heap.size w w3) := B2.out.trans (b3.mono B2.out.size)
      clear b3 D
      have D : Hid _ := K1.out w3 (TAB.out.below B3.out)
      go_wp2_with fail
      refine Calls.mono D.out ?_
      rintro e w4 ⟨rfl, b4⟩
      have B4 : Hid (Below w.heap.size w w4) := B3.out.trans (b4.mono B3.out.size)
      clear b4 D
      have D : Hid _ := K2.out w4
      go_wp2_with fail
      refine Calls.mono D.out ?_
      rintro e w5 ⟨rfl, b5⟩
      have B5 : Hid (Below w.heap.size w w5) := B4.out.trans (b5.mono B4.out.size)
      clear b5 D
      go_wp2
      go_ret
      exact ⟨rfl, B5.out⟩

end Go.Proofs.YtgcaffgdceljaaaDoor

/-
  The walk of the law PageSeals: a page's bytes are just what the document says, or refused.
-/
import Derived.Test.YtgcaffgdceljaaaDoorPgUse
import Derived.Test.YtgcaffgdceljaaaDoorPgRef
namespace Go.Proofs.YtgcaffgdceljaaaDoor
open Go.RowKit

set_option maxRecDepth 100000 in
set_option maxHeartbeats 4000000 in
theorem seals_in (id : Int) (k : UInt8) (b : ByteArray) (w : World) (T : Tab w) (hi : id ≤ 9223372036854775807) (hm : b.size ≤ maxLen) :
    Calls Tryd.prog 3 #[.int .i64 id, .int .u8 (k.toNat : Int), .string b] w fun e w' => e = .returned (.bool true) ∧ Below w.heap.size w w' := by
  have TAB : Hid (Tab w) := T
  have HM : Hid (b.size ≤ maxLen) := hm
  unfold maxLen at hm
  clear T
  by_cases h1 : 2048 < b.size
  · go_enter Tryd.func3, Tryd.ntmps3
    have D : Hid _ := works_any w TAB.out
    go_wp2_with fail
    refine Calls.mono D.out ?_
    rintro e w1 ⟨rfl, b1⟩
    have B1 : Hid (Below w.heap.size w w1) := b1
    clear b1 D
    go_wp2
    go_ret
    exact ⟨rfl, B1.out⟩
  · by_cases h2 : 240 < b.size
    · have h3 : sealE id b.size = 50 := by rw [sealE, if_pos h2]
      have h4 : Hid (sealE id b.size ≠ 0) := by show _ ≠ _; rw [h3]; decide
      have R : Hid (∀ w1, Calls Tryd.prog 10 #[.int .i64 id, .int .u8 (k.toNat : Int), .string b] w1 fun e w' => e = .returned (.tuple #[.string ⟨#[]⟩, .bool false]) ∧ Below w1.heap.size w1 w') := fun w1 => refSeal_no id k b w1 hi HM.out h4.out
      have Q : Hid (∀ w1, Tab w1 → Calls Tryd.prog 9 #[.int .i64 id, .int .u8 (k.toNat : Int), .string b] w1 fun e w' => e = .returned (.tuple #[.string ⟨#[]⟩, .int .i64 50]) ∧ Below w1.heap.size w1 w') := fun w1 t1 => by
        have := seal_no (k := k) w1 t1 HM.out h4.out
        rw [h3] at this
        exact this
      clear h3 hi
      go_enter Tryd.func3, Tryd.ntmps3
      have D : Hid _ := works_any w TAB.out
      go_wp2_with fail
      refine Calls.mono D.out ?_
      rintro e w1 ⟨rfl, b1⟩
      have B1 : Hid (Below w.heap.size w w1) := b1
      clear b1 D
      have D : Hid _ := Q.out w1 (TAB.out.below B1.out)
      go_wp2_with fail
      refine Calls.mono D.out ?_
      rintro e w2 ⟨rfl, b2⟩
      have B2 : Hid (Below w.heap.size w w2) := B1.out.trans (b2.mono B1.out.size)
      clear b2 D
      have D : Hid _ := R.out w2
      go_wp2_with fail
      refine Calls.mono D.out ?_
      rintro e w3 ⟨rfl, b3⟩
      have B3 : Hid (Below w.heap.size w w3) := B2.out.trans (b3.mono B2.out.size)
      clear b3 D
      go_wp2
      go_ret
      exact ⟨rfl, B3.out⟩
    · by_cases h3 : sealE id b.size = 0
      · have Q : Hid (∀ w1, Tab w1 → Calls Tryd.prog 9 #[.int .i64 id, .int .u8 (k.toNat : Int), .string b] w1 fun e w' => e = .returned (.tuple #[.string ⟨(pageL id.toNat k b.data.toList).toArray⟩, .int .i64 0]) ∧ Below w1.heap.size w1 w') := fun w1 t1 => seal_yes w1 t1 HM.out h3
        have R : Hid (∀ w1, Calls Tryd.prog 10 #[.int .i64 id, .int .u8 (k.toNat : Int), .string b] w1 fun e w' => e = .returned (.tuple #[.string ⟨(pageL id.toNat k b.data.toList).toArray⟩, .bool true]) ∧ Below w1.heap.size w1 w') := fun w1 => by
          have := refSeal_any id k b w1 hi HM.out
          rw [sealS, show b.data.toList.length = b.size by simp, if_pos h3, rSealB, decide_eq_true h3] at this
          exact this
        clear h3 hi
        generalize (⟨(pageL id.toNat k b.data.toList).toArray⟩ : ByteArray) = G at *
        go_enter Tryd.func3, Tryd.ntmps3
        have D : Hid _ := works_any w TAB.out
        go_wp2_with fail
        refine Calls.mono D.out ?_
        rintro e w1 ⟨rfl, b1⟩
        have B1 : Hid (Below w.heap.size w w1) := b1
        clear b1 D
        have D : Hid _ := Q.out w1 (TAB.out.below B1.out)
        go_wp2_with fail
        refine Calls.mono D.out ?_
        rintro e w2 ⟨rfl, b2⟩
        have B2 : Hid (Below w.heap.size w w2) := B1.out.trans (b2.mono B1.out.size)
        clear b2 D
        have D : Hid _ := R.out w2
        go_wp2_with fail
        refine Calls.mono D.out ?_
        rintro e w3 ⟨rfl, b3⟩
        have B3 : Hid (Below w.heap.size w w3) := B2.out.trans (b3.mono B2.out.size)
        clear b3 D
        go_wp2
        go_ret
        exact ⟨rfl, B3.out⟩
      · have h4 : sealE id b.size = 1 := by
          unfold sealE at h3 ⊢
          rw [if_neg h2] at h3 ⊢
          split at h3
          · exact absurd rfl h3
          · rename_i hq; rw [if_neg hq]
        have R : Hid (∀ w1, Calls Tryd.prog 10 #[.int .i64 id, .int .u8 (k.toNat : Int), .string b] w1 fun e w' => e = .returned (.tuple #[.string ⟨#[]⟩, .bool false]) ∧ Below w1.heap.size w1 w') := fun w1 => refSeal_no id k b w1 hi HM.out h3
        have Q : Hid (∀ w1, Tab w1 → Calls Tryd.prog 9 #[.int .i64 id, .int .u8 (k.toNat : Int), .string b] w1 fun e w' => e = .returned (.tuple #[.string ⟨#[]⟩, .int .i64 1]) ∧ Below w1.heap.size w1 w') := fun w1 t1 => by
          have := seal_no (k := k) w1 t1 HM.out h3
          rw [h4] at this
          exact this
        clear h3 h4 hi
        go_enter Tryd.func3, Tryd.ntmps3
        have D : Hid _ := works_any w TAB.out
        go_wp2_with fail
        refine Calls.mono D.out ?_
        rintro e w1 ⟨rfl, b1⟩
        have B1 : Hid (Below w.heap.size w w1) := b1
        clear b1 D
        have D : Hid _ := Q.out w1 (TAB.out.below B1.out)
        go_wp2_with fail
        refine Calls.mono D.out ?_
        rintro e w2 ⟨rfl, b2⟩
        have B2 : Hid (Below w.heap.size w w2) := B1.out.trans (b2.mono B1.out.size)
        clear b2 D
        have D : Hid _ := R.out w2
        go_wp2_with fail
        refine Calls.mono D.out ?_
        rintro e w3 ⟨rfl, b3⟩
        have B3 : Hid (Below w.heap.size w w3) := B2.out.trans (b3.mono B2.out.size)
        clear b3 D
        go_wp2
        go_ret
        exact ⟨rfl, B3.out⟩

theorem seals_walk (id k : Int) (b : ByteArray) (w : World) (T : Tab w) (hi : -9223372036854775808 ≤ id ∧ id ≤ 9223372036854775807) (hk : 0 ≤ k ∧ k ≤ 255) (hm : b.size ≤ maxLen) :
    Calls Tryd.prog 3 #[.int .i64 id, .int .u8 k, .string b] w fun e w' => e = .returned (.bool true) ∧ Below w.heap.size w w' := by
  obtain ⟨x, rfl⟩ := byte_of k hk
  exact seals_in id x b w T hi.2 hm

end Go.Proofs.YtgcaffgdceljaaaDoor

/-
  The walks of page.parts, page.Open and page.Check.
-/
import Derived.Test.YtalljfckjkbieaaDoorPgSeal
import Derived.OwnWalk
namespace Go.Proofs.YtalljfckjkbieaaDoor
open Go.RowKit

theorem str_ne {a b : ByteArray} (h : ¬ a = b) : (a.toList == b.toList) = false := by
  rw [beq_eq_false_iff_ne, Lib.toList_data, Lib.toList_data]
  intro e
  exact h (ba_ext e)

theorem rdBytes_small (s : ByteArray) (e n : Int) (h : s.size ≤ maxLen) : (rdBytes s e n).1.size ≤ maxLen := by
  unfold rdBytes
  split
  · unfold maxLen; simp
  · split
    · unfold maxLen; simp
    · split
      · unfold maxLen; simp
      · simp; omega

theorem ret_open {a b : UInt8 × List UInt8 × Int} (h : a = b) : Ending.returned (.tuple #[.int .u8 (a.1.toNat : Int), .string ⟨a.2.1.toArray⟩, .int .i64 a.2.2]) = .returned (.tuple #[.int .u8 (b.1.toNat : Int), .string ⟨b.2.1.toArray⟩, .int .i64 b.2.2]) := by rw [h]

end Go.Proofs.YtalljfckjkbieaaDoor

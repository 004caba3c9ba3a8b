/-
  What Seal, Open and Check tell, case by case, as the laws' walks take it.
-/
import Derived.Test.YtkbakmgjplhjiaaDoorPgWorks
namespace Go.Proofs.YtkbakmgjplhjiaaDoor
open Go.RowKit

theorem byte_of (n : Int) (h : 0 ≤ n ∧ n ≤ 255) : ∃ x : UInt8, n = (x.toNat : Int) := ⟨UInt8.ofNat n.toNat, by simp; omega⟩
/-- What Seal tells, where it is told. -/
theorem seal_yes {id : Int} {k : UInt8} {b : ByteArray} (w : World) (T : Tab w) (hm : b.size ≤ maxLen) (h : sealE id b.size = 0) :
    Calls Tryd.prog 37 #[.int .i64 id, .int .u8 (k.toNat : Int), .string b] w fun e w' => e = .returned (.tuple #[.string ⟨(pageL id.toNat k b.data.toList).toArray⟩, .int .i64 0]) ∧ Below w.heap.size w w' := by
  have := seal_any id k b w T hm
  rw [sealS, show b.data.toList.length = b.size by simp, h, if_pos rfl] at this
  exact this
theorem seal_no {id : Int} {k : UInt8} {b : ByteArray} (w : World) (T : Tab w) (hm : b.size ≤ maxLen) (h : sealE id b.size ≠ 0) :
    Calls Tryd.prog 37 #[.int .i64 id, .int .u8 (k.toNat : Int), .string b] w fun e w' => e = .returned (.tuple #[.string ⟨#[]⟩, .int .i64 (sealE id b.size)]) ∧ Below w.heap.size w w' := by
  have := seal_any id k b w T hm
  rw [sealS, show b.data.toList.length = b.size by simp, if_neg h] at this
  exact this
/-- What Open tells, where it is told. -/
theorem open_yes {id : Int} {k : UInt8} {b : List UInt8} {s : ByteArray} (w : World) (T : Tab w) (hs : s = ⟨(pageL id.toNat k b).toArray⟩) (h : sealE id b.length = 0) :
    Calls Tryd.prog 34 #[.int .i64 id, .string s] w fun e w' => e = .returned (.tuple #[.int .u8 (k.toNat : Int), .string ⟨b.toArray⟩, .int .i64 0]) ∧ Below w.heap.size w w' := by
  subst hs
  have := open_any id ⟨(pageL id.toNat k b).toArray⟩ w T (by rw [ba_size, pageL_length _ _ _ (sealE_zero.1 h).1]; decide)
  rw [show (⟨(pageL id.toNat k b).toArray⟩ : ByteArray).data.toList = pageL id.toNat k b from rfl, opn_page id k b h] at this
  exact this
theorem open_no {id : Int} {s : ByteArray} (w : World) (T : Tab w) (hm : s.size ≤ maxLen) (h : opn id s.data.toList = (0, [], 3)) :
    Calls Tryd.prog 34 #[.int .i64 id, .string s] w fun e w' => e = .returned (.tuple #[.int .u8 0, .string ⟨#[]⟩, .int .i64 3]) ∧ Below w.heap.size w w' := by
  have := open_any id s w T hm
  rw [h] at this
  exact this
theorem opn_yes {id : Int} {s : ByteArray} (h : (opn id s.data.toList).2.2 = 0) : ∃ k b, s = ⟨(pageL id.toNat k b).toArray⟩ ∧ sealE id b.length = 0 := by
  obtain ⟨k, b, h1, h2, _⟩ := opn_inv h
  exact ⟨k, b, by rw [← h2], h1⟩
theorem opn_nay {id : Int} {s : List UInt8} (h : (opn id s).2.2 ≠ 0) : opn id s = (0, [], 3) := by
  rcases opn_cases id s with ⟨k, b, _, _, h3⟩ | ⟨_, h3⟩
  · rw [h3] at h; exact absurd rfl h
  · exact h3

end Go.Proofs.YtkbakmgjplhjiaaDoor

/-
  What Seal, Open and Check tell, case by case, as the laws' walks take it.
-/
import Derived.Test.YtalljfckjkbieaaDoorPgWorks
namespace Go.Proofs.YtalljfckjkbieaaDoor
open Go.RowKit

theorem byte_of (n : Int) (h : 0 ≤ n ∧ n ≤ 255) : ∃ x : UInt8, n = (x.toNat : Int) := ⟨UInt8.ofNat n.toNat, by simp; omega⟩
theorem opn_yes {id : Int} {s : ByteArray} (h : (opn id s.data.toList).2.2 = 0) : ∃ k b, s = ⟨(pageL id.toNat k b).toArray⟩ ∧ sealE id b.length = 0 := by
  obtain ⟨k, b, h1, h2, _⟩ := opn_inv h
  exact ⟨k, b, by rw [← h2], h1⟩
theorem opn_nay {id : Int} {s : List UInt8} (h : (opn id s).2.2 ≠ 0) : opn id s = (0, [], 3) := by
  rcases opn_cases id s with ⟨k, b, _, _, h3⟩ | ⟨_, h3⟩
  · rw [h3] at h; exact absurd rfl h
  · exact h3

end Go.Proofs.YtalljfckjkbieaaDoor

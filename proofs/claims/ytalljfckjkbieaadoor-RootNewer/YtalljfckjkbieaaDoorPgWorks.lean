/-
  The document's example, as the statements hold it.
-/
import Derived.Test.YtalljfckjkbieaaDoorPgOpen
namespace Go.Proofs.YtalljfckjkbieaaDoor
open Go.RowKit

theorem opn_not {id other : Int} {k : UInt8} {b : List UInt8} (h : sealE id b.length = 0) (ne : other ≠ id) : opn other (pageL id.toNat k b) = (0, [], 3) := by
  rcases opn_cases other (pageL id.toNat k b) with ⟨l, c, _, _, h3⟩ | ⟨_, h3⟩
  · exact absurd ((opn_other h).1 (by rw [h3])) ne
  · exact h3

/-- The example's page. -/
def pab : ByteArray := ⟨(pageL 7 1 [97, 98]).toArray⟩
theorem pab_size : pab.size = 256 := by rw [pab, ba_size, pageL_length _ _ _ (by decide)]
theorem pab_part : pab.extract 4 19 = ⟨#[0, 0, 0, 7, 1, 0, 0, 2, 0, 0, 0, 0, 97, 98, 0]⟩ := by decide +kernel
theorem pab_seal : sealS 7 1 [97, 98] = pageL 7 1 [97, 98] := by rw [sealS, if_pos (by decide)]; rfl

end Go.Proofs.YtalljfckjkbieaaDoor

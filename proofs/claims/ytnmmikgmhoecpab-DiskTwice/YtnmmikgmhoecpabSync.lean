/-
  The walk of Sync.
-/
import Derived.Test.YtnmmikgmhoecpabChg
import Derived.Deep.LoopGhost
namespace Go.Proofs.Ytnmmikgmhoecpab
open Go.RowKit
set_option linter.unusedVariables false
open Go.ChangeMaps (setBlock)
section
variable {w w' : World} {b m g : Nat} {pv : Value} {br : Bool} {lf : Int} {d : Dk}

theorem Mem.pcells (h : Mem w b m g pv br lf d) {k : Nat} (hk : k < d.pend.length) : ∃ r c, pv = .slice (some ⟨r, 0, none⟩) d.pend.length c ∧ w.cell? ⟨r, k * 2, none⟩ = some (.int .i64 (wAt d.pend k).1) ∧ w.cell? ⟨r, k * 2 + 1, none⟩ = some (.string (wAt d.pend k).2) ∧ r < w.heap.size := by
  rcases h.pnd.2 with ⟨_, h2⟩ | ⟨r, c, cur, h1, _⟩
  · omega
  · have hp := h.pnd
    rw [h1] at hp
    refine ⟨r, c, h1, ?_, ?_, (h.pk (by rw [h1]; rfl)).1⟩
    · rw [hp.cellAt (k * 2) (by omega)]; exact (flatW_get d.pend k hk).1
    · rw [hp.cellAt (k * 2 + 1) (by omega)]; exact (flatW_get d.pend k hk).2

def Dk.at (d : Dk) (s : List ByteArray) : Dk := { d with sure := s }

end
end Go.Proofs.Ytnmmikgmhoecpab

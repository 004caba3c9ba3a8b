/-
  DERIVED. GIVEN WITH THE SEED: THE CARDS: each row of YtnjnggjbeklmpaaGreatDoorRows.lean that lists a variable, with what it lists TIED to the program's text (the seventh form; the later family's looks); each row that meets fmt, with fmt's text TOLD by the authors' own Lean function (tested against real Go, not proved from fmt's source: count such statements apart). THE CARD IS WHAT COUNTS. Prove the row's statement (the work); the ties are given (YtnjnggjbeklmpaaGreatDoorTie.lean); close each card by the builder's one call (the guide's Derived/Test/ToyasCard.lean, 'card_holds'). Laid BY PROGRAM, IN A SANDBOX (cutbox-door.mjs). By AI agents, Wed Nov 11 2026. No macro, syntax, notation, axiom, sorry.
-/
import Derived.Test.YtnjnggjbeklmpaaGreatDoorRows
import GoSem.ClaimSeven
namespace Go.Proofs.YtnjnggjbeklmpaaGreatDoor
namespace Rows

/-- THE TIED CARD OF 'rootstocklaw09.ChainDoes'. -/
def chainDoesCard : Claim7 := { stood := { row := chainDoesRow, standIns := [], harness := (true, "ad8a6046dcf826c928f928463bd13c49cb9e5f0f5f4334d4c378392cdbbd923b"), looks := false }, kinds := [], alts := [], laidByText := true, laidKinds := [.data], laidTests := true, laidLooks := .later }
def ChainDoesCardSaid : Prop := Claim7.holds Tryz.pinned (.plain (OpenSpec.ofChange chainDoesSpec)) chainDoesCard

/-- THE SECOND FORM's CARD OF 'rootstocklaw09.ChainDoes'. -/
def chainDoesUptoCard : Claim7 := { stood := { row := chainDoesUptoRow, standIns := [], harness := (true, "ad8a6046dcf826c928f928463bd13c49cb9e5f0f5f4334d4c378392cdbbd923b"), looks := false }, kinds := [], alts := [], laidByText := true, laidKinds := [.data], laidTests := true, laidLooks := .later }
def ChainDoesUptoCardSaid : Prop := Claim7.holds Tryz.pinned (.plain (OpenSpec.upto chainDoesSpec)) chainDoesUptoCard
end Rows
end Go.Proofs.YtnjnggjbeklmpaaGreatDoor

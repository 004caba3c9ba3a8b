/-
  DERIVED. GIVEN WITH THE SEED: THE CARDS: each row of YtcenfooehjcddaaGreatDoorRows.lean that lists a variable, with what it lists TIED to the program's text (the seventh form; the later family's looks); each row that meets fmt, with fmt's text TOLD by the authors' own Lean function (tested against real Go, not proved from fmt's source: count such statements apart). THE CARD IS WHAT COUNTS. Prove the row's statement (the work); the ties are given (YtcenfooehjcddaaGreatDoorTie.lean); close each card by the builder's one call (the guide's Derived/Test/ToyasCard.lean, 'card_holds'). Laid BY PROGRAM, IN A SANDBOX (cutbox-door.mjs). By AI agents, Wed Nov 11 2026. No macro, syntax, notation, axiom, sorry.
-/
import Derived.Test.YtcenfooehjcddaaGreatDoorRows
import GoSem.ClaimSeven
namespace Go.Proofs.YtcenfooehjcddaaGreatDoor
namespace Rows

/-- THE TIED CARD OF 'rootstocklaw17.AdjDoes'. -/
def adjDoesCard : Claim7 := { stood := { row := adjDoesRow, standIns := [], harness := (true, "f4b21adea683cf6971bf43a5dc8a59f931d00d02732be4bc03bbd93e524bd824"), looks := false }, kinds := [], alts := [], laidByText := true, laidKinds := [.data], laidTests := true, laidLooks := .later }
def AdjDoesCardSaid : Prop := Claim7.holds Tryz.pinned (.plain (OpenSpec.ofChange adjDoesSpec)) adjDoesCard

/-- THE TIED CARD OF 'rootstocklaw17.AdjApart'. -/
def adjApartCard : Claim7 := { stood := { row := adjApartRow, standIns := [], harness := (true, "f4b21adea683cf6971bf43a5dc8a59f931d00d02732be4bc03bbd93e524bd824"), looks := false }, kinds := [], alts := [], laidByText := true, laidKinds := [.data], laidTests := true, laidLooks := .later }
def AdjApartCardSaid : Prop := Claim7.holds Tryz.pinned (.plain (OpenSpec.ofChange adjApartSpec)) adjApartCard

/-- THE SECOND FORM's CARD OF 'rootstocklaw17.AdjDoes'. -/
def adjDoesUptoCard : Claim7 := { stood := { row := adjDoesUptoRow, standIns := [], harness := (true, "f4b21adea683cf6971bf43a5dc8a59f931d00d02732be4bc03bbd93e524bd824"), looks := false }, kinds := [], alts := [], laidByText := true, laidKinds := [.data], laidTests := true, laidLooks := .later }
def AdjDoesUptoCardSaid : Prop := Claim7.holds Tryz.pinned (.plain (OpenSpec.upto adjDoesSpec)) adjDoesUptoCard

/-- THE SECOND FORM's CARD OF 'rootstocklaw17.AdjApart'. -/
def adjApartUptoCard : Claim7 := { stood := { row := adjApartUptoRow, standIns := [], harness := (true, "f4b21adea683cf6971bf43a5dc8a59f931d00d02732be4bc03bbd93e524bd824"), looks := false }, kinds := [], alts := [], laidByText := true, laidKinds := [.data], laidTests := true, laidLooks := .later }
def AdjApartUptoCardSaid : Prop := Claim7.holds Tryz.pinned (.plain (OpenSpec.upto adjApartSpec)) adjApartUptoCard
end Rows
end Go.Proofs.YtcenfooehjcddaaGreatDoor

/-
  DERIVED. GIVEN WITH THE SEED: THE CARDS: each row of YtceoeaemenhbhabGreatDoorRows.lean that lists a variable, with what it lists TIED to the program's text (the seventh form; the later family's looks); each row that meets fmt, with fmt's text TOLD by the authors' own Lean function (tested against real Go, not proved from fmt's source: count such statements apart). THE CARD IS WHAT COUNTS. Prove the row's statement (the work); the ties are given (YtceoeaemenhbhabGreatDoorTie.lean); close each card by the builder's one call (the guide's Derived/Test/ToyasCard.lean, 'card_holds'). Laid BY PROGRAM, IN A SANDBOX (cutbox-door.mjs). By AI agents, Wed Nov 11 2026. No macro, syntax, notation, axiom, sorry.
-/
import Derived.Test.YtceoeaemenhbhabGreatDoorRows
import GoSem.ClaimSeven
namespace Go.Proofs.YtceoeaemenhbhabGreatDoor
namespace Rows

/-- THE TIED CARD OF 'rootstocklaw13.TreeScans'. -/
def treeScansCard : Claim7 := { stood := { row := treeScansRow, standIns := [], harness := (true, "bcf36849fd2fa93d6d71e36550cbbd51c7ad020d5f044b1e77e6494662df8a3d"), looks := false }, kinds := [], alts := [], laidByText := true, laidKinds := [.data], laidTests := true, laidLooks := .later }
def TreeScansCardSaid : Prop := Claim7.holds Tryz.pinned (.plain (OpenSpec.ofChange treeScansSpec)) treeScansCard

/-- THE TIED CARD OF 'rootstocklaw13.TreeOrder'. -/
def treeOrderCard : Claim7 := { stood := { row := treeOrderRow, standIns := [], harness := (true, "bcf36849fd2fa93d6d71e36550cbbd51c7ad020d5f044b1e77e6494662df8a3d"), looks := false }, kinds := [], alts := [], laidByText := true, laidKinds := [.data], laidTests := true, laidLooks := .later }
def TreeOrderCardSaid : Prop := Claim7.holds Tryz.pinned (.plain (OpenSpec.ofChange treeOrderSpec)) treeOrderCard

/-- THE TIED CARD OF 'rootstocklaw13.TreeLow'. -/
def treeLowCard : Claim7 := { stood := { row := treeLowRow, standIns := [], harness := (true, "bcf36849fd2fa93d6d71e36550cbbd51c7ad020d5f044b1e77e6494662df8a3d"), looks := false }, kinds := [], alts := [], laidByText := true, laidKinds := [.data], laidTests := true, laidLooks := .later }
def TreeLowCardSaid : Prop := Claim7.holds Tryz.pinned (.plain (OpenSpec.ofChange treeLowSpec)) treeLowCard

/-- THE SECOND FORM's CARD OF 'rootstocklaw13.TreeScans'. -/
def treeScansUptoCard : Claim7 := { stood := { row := treeScansUptoRow, standIns := [], harness := (true, "bcf36849fd2fa93d6d71e36550cbbd51c7ad020d5f044b1e77e6494662df8a3d"), looks := false }, kinds := [], alts := [], laidByText := true, laidKinds := [.data], laidTests := true, laidLooks := .later }
def TreeScansUptoCardSaid : Prop := Claim7.holds Tryz.pinned (.plain (OpenSpec.upto treeScansSpec)) treeScansUptoCard

/-- THE SECOND FORM's CARD OF 'rootstocklaw13.TreeOrder'. -/
def treeOrderUptoCard : Claim7 := { stood := { row := treeOrderUptoRow, standIns := [], harness := (true, "bcf36849fd2fa93d6d71e36550cbbd51c7ad020d5f044b1e77e6494662df8a3d"), looks := false }, kinds := [], alts := [], laidByText := true, laidKinds := [.data], laidTests := true, laidLooks := .later }
def TreeOrderUptoCardSaid : Prop := Claim7.holds Tryz.pinned (.plain (OpenSpec.upto treeOrderSpec)) treeOrderUptoCard

/-- THE SECOND FORM's CARD OF 'rootstocklaw13.TreeLow'. -/
def treeLowUptoCard : Claim7 := { stood := { row := treeLowUptoRow, standIns := [], harness := (true, "bcf36849fd2fa93d6d71e36550cbbd51c7ad020d5f044b1e77e6494662df8a3d"), looks := false }, kinds := [], alts := [], laidByText := true, laidKinds := [.data], laidTests := true, laidLooks := .later }
def TreeLowUptoCardSaid : Prop := Claim7.holds Tryz.pinned (.plain (OpenSpec.upto treeLowSpec)) treeLowUptoCard
end Rows
end Go.Proofs.YtceoeaemenhbhabGreatDoor

/-
  DERIVED. GIVEN WITH THE SEED: THE CARDS: each row of YtceoeaemenhbhaaGreatDoorRows.lean that lists a variable, with what it lists TIED to the program's text (the seventh form; the later family's looks); each row that meets fmt, with fmt's text TOLD by the authors' own Lean function (tested against real Go, not proved from fmt's source: count such statements apart). THE CARD IS WHAT COUNTS. Prove the row's statement (the work); the ties are given (YtceoeaemenhbhaaGreatDoorTie.lean); close each card by the builder's one call (the guide's Derived/Test/ToyasCard.lean, 'card_holds'). Laid BY PROGRAM, IN A SANDBOX (cutbox-door.mjs). By AI agents, Wed Nov 11 2026. No macro, syntax, notation, axiom, sorry.
-/
import Derived.Test.YtceoeaemenhbhaaGreatDoorRows
import GoSem.ClaimSeven
namespace Go.Proofs.YtceoeaemenhbhaaGreatDoor
namespace Rows

/-- THE TIED CARD OF 'rootstocklaw13.TreeDoes'. -/
def treeDoesCard : Claim7 := { stood := { row := treeDoesRow, standIns := [], harness := (true, "febe7f83598524c85a3e970810c1b4e0841ea09669114060d0b17ded3bb7ed9b"), looks := false }, kinds := [], alts := [], laidByText := true, laidKinds := [.data], laidTests := true, laidLooks := .later }
def TreeDoesCardSaid : Prop := Claim7.holds Tryz.pinned (.plain (OpenSpec.ofChange treeDoesSpec)) treeDoesCard

/-- THE TIED CARD OF 'rootstocklaw13.TreeOld'. -/
def treeOldCard : Claim7 := { stood := { row := treeOldRow, standIns := [], harness := (true, "febe7f83598524c85a3e970810c1b4e0841ea09669114060d0b17ded3bb7ed9b"), looks := false }, kinds := [], alts := [], laidByText := true, laidKinds := [.data], laidTests := true, laidLooks := .later }
def TreeOldCardSaid : Prop := Claim7.holds Tryz.pinned (.plain (OpenSpec.ofChange treeOldSpec)) treeOldCard

/-- THE TIED CARD OF 'rootstocklaw13.TreeErrs'. -/
def treeErrsCard : Claim7 := { stood := { row := treeErrsRow, standIns := [], harness := (true, "febe7f83598524c85a3e970810c1b4e0841ea09669114060d0b17ded3bb7ed9b"), looks := false }, kinds := [], alts := [], laidByText := true, laidKinds := [.data], laidTests := true, laidLooks := .later }
def TreeErrsCardSaid : Prop := Claim7.holds Tryz.pinned (.plain (OpenSpec.ofChange treeErrsSpec)) treeErrsCard

/-- THE TIED CARD OF 'rootstocklaw13.TreeHarm'. -/
def treeHarmCard : Claim7 := { stood := { row := treeHarmRow, standIns := [], harness := (true, "febe7f83598524c85a3e970810c1b4e0841ea09669114060d0b17ded3bb7ed9b"), looks := false }, kinds := [], alts := [], laidByText := true, laidKinds := [.data], laidTests := true, laidLooks := .later }
def TreeHarmCardSaid : Prop := Claim7.holds Tryz.pinned (.plain (OpenSpec.ofChange treeHarmSpec)) treeHarmCard

/-- THE TIED CARD OF 'rootstocklaw13.TreeRaw'. -/
def treeRawCard : Claim7 := { stood := { row := treeRawRow, standIns := [], harness := (true, "febe7f83598524c85a3e970810c1b4e0841ea09669114060d0b17ded3bb7ed9b"), looks := false }, kinds := [], alts := [], laidByText := true, laidKinds := [.data], laidTests := true, laidLooks := .later }
def TreeRawCardSaid : Prop := Claim7.holds Tryz.pinned (.plain (OpenSpec.ofChange treeRawSpec)) treeRawCard

/-- THE TIED CARD OF 'rootstocklaw13.TreeTight'. -/
def treeTightCard : Claim7 := { stood := { row := treeTightRow, standIns := [], harness := (true, "febe7f83598524c85a3e970810c1b4e0841ea09669114060d0b17ded3bb7ed9b"), looks := false }, kinds := [], alts := [], laidByText := true, laidKinds := [.data], laidTests := true, laidLooks := .later }
def TreeTightCardSaid : Prop := Claim7.holds Tryz.pinned (.plain (OpenSpec.ofChange treeTightSpec)) treeTightCard

/-- THE SECOND FORM's CARD OF 'rootstocklaw13.TreeDoes'. -/
def treeDoesUptoCard : Claim7 := { stood := { row := treeDoesUptoRow, standIns := [], harness := (true, "febe7f83598524c85a3e970810c1b4e0841ea09669114060d0b17ded3bb7ed9b"), looks := false }, kinds := [], alts := [], laidByText := true, laidKinds := [.data], laidTests := true, laidLooks := .later }
def TreeDoesUptoCardSaid : Prop := Claim7.holds Tryz.pinned (.plain (OpenSpec.upto treeDoesSpec)) treeDoesUptoCard

/-- THE SECOND FORM's CARD OF 'rootstocklaw13.TreeOld'. -/
def treeOldUptoCard : Claim7 := { stood := { row := treeOldUptoRow, standIns := [], harness := (true, "febe7f83598524c85a3e970810c1b4e0841ea09669114060d0b17ded3bb7ed9b"), looks := false }, kinds := [], alts := [], laidByText := true, laidKinds := [.data], laidTests := true, laidLooks := .later }
def TreeOldUptoCardSaid : Prop := Claim7.holds Tryz.pinned (.plain (OpenSpec.upto treeOldSpec)) treeOldUptoCard

/-- THE SECOND FORM's CARD OF 'rootstocklaw13.TreeErrs'. -/
def treeErrsUptoCard : Claim7 := { stood := { row := treeErrsUptoRow, standIns := [], harness := (true, "febe7f83598524c85a3e970810c1b4e0841ea09669114060d0b17ded3bb7ed9b"), looks := false }, kinds := [], alts := [], laidByText := true, laidKinds := [.data], laidTests := true, laidLooks := .later }
def TreeErrsUptoCardSaid : Prop := Claim7.holds Tryz.pinned (.plain (OpenSpec.upto treeErrsSpec)) treeErrsUptoCard

/-- THE SECOND FORM's CARD OF 'rootstocklaw13.TreeHarm'. -/
def treeHarmUptoCard : Claim7 := { stood := { row := treeHarmUptoRow, standIns := [], harness := (true, "febe7f83598524c85a3e970810c1b4e0841ea09669114060d0b17ded3bb7ed9b"), looks := false }, kinds := [], alts := [], laidByText := true, laidKinds := [.data], laidTests := true, laidLooks := .later }
def TreeHarmUptoCardSaid : Prop := Claim7.holds Tryz.pinned (.plain (OpenSpec.upto treeHarmSpec)) treeHarmUptoCard

/-- THE SECOND FORM's CARD OF 'rootstocklaw13.TreeRaw'. -/
def treeRawUptoCard : Claim7 := { stood := { row := treeRawUptoRow, standIns := [], harness := (true, "febe7f83598524c85a3e970810c1b4e0841ea09669114060d0b17ded3bb7ed9b"), looks := false }, kinds := [], alts := [], laidByText := true, laidKinds := [.data], laidTests := true, laidLooks := .later }
def TreeRawUptoCardSaid : Prop := Claim7.holds Tryz.pinned (.plain (OpenSpec.upto treeRawSpec)) treeRawUptoCard

/-- THE SECOND FORM's CARD OF 'rootstocklaw13.TreeTight'. -/
def treeTightUptoCard : Claim7 := { stood := { row := treeTightUptoRow, standIns := [], harness := (true, "febe7f83598524c85a3e970810c1b4e0841ea09669114060d0b17ded3bb7ed9b"), looks := false }, kinds := [], alts := [], laidByText := true, laidKinds := [.data], laidTests := true, laidLooks := .later }
def TreeTightUptoCardSaid : Prop := Claim7.holds Tryz.pinned (.plain (OpenSpec.upto treeTightSpec)) treeTightUptoCard
end Rows
end Go.Proofs.YtceoeaemenhbhaaGreatDoor

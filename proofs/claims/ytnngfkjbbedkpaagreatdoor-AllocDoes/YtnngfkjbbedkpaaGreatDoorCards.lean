/-
  DERIVED. GIVEN WITH THE SEED: THE CARDS: each row of YtnngfkjbbedkpaaGreatDoorRows.lean that lists a variable, with what it lists TIED to the program's text (the seventh form; the later family's looks); each row that meets fmt, with fmt's text TOLD by the authors' own Lean function (tested against real Go, not proved from fmt's source: count such statements apart). THE CARD IS WHAT COUNTS. Prove the row's statement (the work); the ties are given (YtnngfkjbbedkpaaGreatDoorTie.lean); close each card by the builder's one call (the guide's Derived/Test/ToyasCard.lean, 'card_holds'). Laid BY PROGRAM, IN A SANDBOX (cutbox-door.mjs). By AI agents, Wed Nov 11 2026. No macro, syntax, notation, axiom, sorry.
-/
import Derived.Test.YtnngfkjbbedkpaaGreatDoorRows
import GoSem.ClaimSeven
namespace Go.Proofs.YtnngfkjbbedkpaaGreatDoor
namespace Rows

/-- THE TIED CARD OF 'rootstocklaw10.AllocDoes'. -/
def allocDoesCard : Claim7 := { stood := { row := allocDoesRow, standIns := [], harness := (true, "d87599e668e4c63ea5dacbff880bc8724aa6e4208f547c98c795ea22e50d26f2"), looks := false }, kinds := [], alts := [], laidByText := true, laidKinds := [.data], laidTests := true, laidLooks := .later }
def AllocDoesCardSaid : Prop := Claim7.holds Tryz.pinned (.plain (OpenSpec.ofChange allocDoesSpec)) allocDoesCard

/-- THE TIED CARD OF 'rootstocklaw10.AllocKeeps'. -/
def allocKeepsCard : Claim7 := { stood := { row := allocKeepsRow, standIns := [], harness := (true, "d87599e668e4c63ea5dacbff880bc8724aa6e4208f547c98c795ea22e50d26f2"), looks := false }, kinds := [], alts := [], laidByText := true, laidKinds := [.data], laidTests := true, laidLooks := .later }
def AllocKeepsCardSaid : Prop := Claim7.holds Tryz.pinned (.plain (OpenSpec.ofChange allocKeepsSpec)) allocKeepsCard

/-- THE SECOND FORM's CARD OF 'rootstocklaw10.AllocDoes'. -/
def allocDoesUptoCard : Claim7 := { stood := { row := allocDoesUptoRow, standIns := [], harness := (true, "d87599e668e4c63ea5dacbff880bc8724aa6e4208f547c98c795ea22e50d26f2"), looks := false }, kinds := [], alts := [], laidByText := true, laidKinds := [.data], laidTests := true, laidLooks := .later }
def AllocDoesUptoCardSaid : Prop := Claim7.holds Tryz.pinned (.plain (OpenSpec.upto allocDoesSpec)) allocDoesUptoCard

/-- THE SECOND FORM's CARD OF 'rootstocklaw10.AllocKeeps'. -/
def allocKeepsUptoCard : Claim7 := { stood := { row := allocKeepsUptoRow, standIns := [], harness := (true, "d87599e668e4c63ea5dacbff880bc8724aa6e4208f547c98c795ea22e50d26f2"), looks := false }, kinds := [], alts := [], laidByText := true, laidKinds := [.data], laidTests := true, laidLooks := .later }
def AllocKeepsUptoCardSaid : Prop := Claim7.holds Tryz.pinned (.plain (OpenSpec.upto allocKeepsSpec)) allocKeepsUptoCard
end Rows
end Go.Proofs.YtnngfkjbbedkpaaGreatDoor

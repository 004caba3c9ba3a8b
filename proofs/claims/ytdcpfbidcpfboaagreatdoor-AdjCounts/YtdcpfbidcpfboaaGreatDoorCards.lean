/-
  DERIVED. GIVEN WITH THE SEED: THE CARDS: each row of YtdcpfbidcpfboaaGreatDoorRows.lean that lists a variable, with what it lists TIED to the program's text (the seventh form; the later family's looks); each row that meets fmt, with fmt's text TOLD by the authors' own Lean function (tested against real Go, not proved from fmt's source: count such statements apart). THE CARD IS WHAT COUNTS. Prove the row's statement (the work); the ties are given (YtdcpfbidcpfboaaGreatDoorTie.lean); close each card by the builder's one call (the guide's Derived/Test/ToyasCard.lean, 'card_holds'). Laid BY PROGRAM, IN A SANDBOX (cutbox-door.mjs). By AI agents, Wed Nov 11 2026. No macro, syntax, notation, axiom, sorry.
-/
import Derived.Test.YtdcpfbidcpfboaaGreatDoorRows
import GoSem.ClaimSeven
namespace Go.Proofs.YtdcpfbidcpfboaaGreatDoor
namespace Rows

/-- THE TIED CARD OF 'rootstocklaw17.AdjDoes'. -/
def adjDoesCard : Claim7 := { stood := { row := adjDoesRow, standIns := [], harness := (true, "14a46e3811b8a2222d0e3f1c795412fb9ddd84bced524a0f7e23c2655ffcfa6b"), looks := false }, kinds := [], alts := [], laidByText := true, laidKinds := [.data], laidTests := true, laidLooks := .later }
def AdjDoesCardSaid : Prop := Claim7.holds Tryz.pinned (.plain (OpenSpec.ofChange adjDoesSpec)) adjDoesCard

/-- THE TIED CARD OF 'rootstocklaw17.AdjKeys'. -/
def adjKeysCard : Claim7 := { stood := { row := adjKeysRow, standIns := [], harness := (true, "14a46e3811b8a2222d0e3f1c795412fb9ddd84bced524a0f7e23c2655ffcfa6b"), looks := false }, kinds := [], alts := [], laidByText := true, laidKinds := [.data], laidTests := true, laidLooks := .later }
def AdjKeysCardSaid : Prop := Claim7.holds Tryz.pinned (.plain (OpenSpec.ofChange adjKeysSpec)) adjKeysCard

/-- THE TIED CARD OF 'rootstocklaw17.AdjApart'. -/
def adjApartCard : Claim7 := { stood := { row := adjApartRow, standIns := [], harness := (true, "14a46e3811b8a2222d0e3f1c795412fb9ddd84bced524a0f7e23c2655ffcfa6b"), looks := false }, kinds := [], alts := [], laidByText := true, laidKinds := [.data], laidTests := true, laidLooks := .later }
def AdjApartCardSaid : Prop := Claim7.holds Tryz.pinned (.plain (OpenSpec.ofChange adjApartSpec)) adjApartCard

/-- THE TIED CARD OF 'rootstocklaw17.AdjRaw'. -/
def adjRawCard : Claim7 := { stood := { row := adjRawRow, standIns := [], harness := (true, "14a46e3811b8a2222d0e3f1c795412fb9ddd84bced524a0f7e23c2655ffcfa6b"), looks := false }, kinds := [], alts := [], laidByText := true, laidKinds := [.data], laidTests := true, laidLooks := .later }
def AdjRawCardSaid : Prop := Claim7.holds Tryz.pinned (.plain (OpenSpec.ofChange adjRawSpec)) adjRawCard

/-- THE TIED CARD OF 'rootstocklaw17.AdjCounts'. -/
def adjCountsCard : Claim7 := { stood := { row := adjCountsRow, standIns := [], harness := (true, "14a46e3811b8a2222d0e3f1c795412fb9ddd84bced524a0f7e23c2655ffcfa6b"), looks := false }, kinds := [], alts := [], laidByText := true, laidKinds := [.data], laidTests := true, laidLooks := .later }
def AdjCountsCardSaid : Prop := Claim7.holds Tryz.pinned (.plain (OpenSpec.ofChange adjCountsSpec)) adjCountsCard

/-- THE SECOND FORM's CARD OF 'rootstocklaw17.AdjDoes'. -/
def adjDoesUptoCard : Claim7 := { stood := { row := adjDoesUptoRow, standIns := [], harness := (true, "14a46e3811b8a2222d0e3f1c795412fb9ddd84bced524a0f7e23c2655ffcfa6b"), looks := false }, kinds := [], alts := [], laidByText := true, laidKinds := [.data], laidTests := true, laidLooks := .later }
def AdjDoesUptoCardSaid : Prop := Claim7.holds Tryz.pinned (.plain (OpenSpec.upto adjDoesSpec)) adjDoesUptoCard

/-- THE SECOND FORM's CARD OF 'rootstocklaw17.AdjKeys'. -/
def adjKeysUptoCard : Claim7 := { stood := { row := adjKeysUptoRow, standIns := [], harness := (true, "14a46e3811b8a2222d0e3f1c795412fb9ddd84bced524a0f7e23c2655ffcfa6b"), looks := false }, kinds := [], alts := [], laidByText := true, laidKinds := [.data], laidTests := true, laidLooks := .later }
def AdjKeysUptoCardSaid : Prop := Claim7.holds Tryz.pinned (.plain (OpenSpec.upto adjKeysSpec)) adjKeysUptoCard

/-- THE SECOND FORM's CARD OF 'rootstocklaw17.AdjApart'. -/
def adjApartUptoCard : Claim7 := { stood := { row := adjApartUptoRow, standIns := [], harness := (true, "14a46e3811b8a2222d0e3f1c795412fb9ddd84bced524a0f7e23c2655ffcfa6b"), looks := false }, kinds := [], alts := [], laidByText := true, laidKinds := [.data], laidTests := true, laidLooks := .later }
def AdjApartUptoCardSaid : Prop := Claim7.holds Tryz.pinned (.plain (OpenSpec.upto adjApartSpec)) adjApartUptoCard

/-- THE SECOND FORM's CARD OF 'rootstocklaw17.AdjRaw'. -/
def adjRawUptoCard : Claim7 := { stood := { row := adjRawUptoRow, standIns := [], harness := (true, "14a46e3811b8a2222d0e3f1c795412fb9ddd84bced524a0f7e23c2655ffcfa6b"), looks := false }, kinds := [], alts := [], laidByText := true, laidKinds := [.data], laidTests := true, laidLooks := .later }
def AdjRawUptoCardSaid : Prop := Claim7.holds Tryz.pinned (.plain (OpenSpec.upto adjRawSpec)) adjRawUptoCard

/-- THE SECOND FORM's CARD OF 'rootstocklaw17.AdjCounts'. -/
def adjCountsUptoCard : Claim7 := { stood := { row := adjCountsUptoRow, standIns := [], harness := (true, "14a46e3811b8a2222d0e3f1c795412fb9ddd84bced524a0f7e23c2655ffcfa6b"), looks := false }, kinds := [], alts := [], laidByText := true, laidKinds := [.data], laidTests := true, laidLooks := .later }
def AdjCountsUptoCardSaid : Prop := Claim7.holds Tryz.pinned (.plain (OpenSpec.upto adjCountsSpec)) adjCountsUptoCard
end Rows
end Go.Proofs.YtdcpfbidcpfboaaGreatDoor

/-
  DERIVED. GIVEN WITH THE SEED: THE CARDS: each row of YtnjnggjbeklmpaaDoorRows.lean that lists a variable, with what it lists TIED to the program's text (the seventh form; the later family's looks); each row that meets fmt, with fmt's text TOLD by the authors' own Lean function (tested against real Go, not proved from fmt's source: count such statements apart). THE CARD IS WHAT COUNTS. Prove the row's statement (the work); the ties are given (YtnjnggjbeklmpaaDoorTie.lean); close each card by the builder's one call (the guide's Derived/Test/ToyasCard.lean, 'card_holds'). Laid BY PROGRAM, IN A SANDBOX (cutbox-door.mjs). By AI agents, Wed Nov 11 2026. No macro, syntax, notation, axiom, sorry.
-/
import Derived.Test.YtnjnggjbeklmpaaDoorRows
import GoSem.ClaimSeven
namespace Go.Proofs.YtnjnggjbeklmpaaDoor
namespace Rows

/-- THE TIED CARD OF 'rootstocklaw09.ChainKeeps'. -/
def chainKeepsCard : Claim7 := { stood := { row := chainKeepsRow, standIns := [], harness := (true, "96c0bac78616fb511b8884461640b29b457ba981bdd8d89952cd3b8b5a966f0c"), looks := false }, kinds := [], alts := [], laidByText := true, laidKinds := [.data], laidTests := true, laidLooks := .later }
def ChainKeepsCardSaid : Prop := Claim7.holds Tryd.pinned (.plain (OpenSpec.ofChange chainKeepsSpec)) chainKeepsCard

/-- THE TIED CARD OF 'rootstocklaw09.ChainEnds'. -/
def chainEndsCard : Claim7 := { stood := { row := chainEndsRow, standIns := [], harness := (true, "96c0bac78616fb511b8884461640b29b457ba981bdd8d89952cd3b8b5a966f0c"), looks := false }, kinds := [], alts := [], laidByText := true, laidKinds := [.data], laidTests := true, laidLooks := .later }
def ChainEndsCardSaid : Prop := Claim7.holds Tryd.pinned (.plain (OpenSpec.ofChange chainEndsSpec)) chainEndsCard

/-- THE TIED CARD OF 'rootstocklaw09.ChainOver'. -/
def chainOverCard : Claim7 := { stood := { row := chainOverRow, standIns := [], harness := (true, "96c0bac78616fb511b8884461640b29b457ba981bdd8d89952cd3b8b5a966f0c"), looks := false }, kinds := [], alts := [], laidByText := true, laidKinds := [.data], laidTests := true, laidLooks := .later }
def ChainOverCardSaid : Prop := Claim7.holds Tryd.pinned (.plain (OpenSpec.ofChange chainOverSpec)) chainOverCard

/-- THE SECOND FORM's CARD OF 'rootstocklaw09.ChainKeeps'. -/
def chainKeepsUptoCard : Claim7 := { stood := { row := chainKeepsUptoRow, standIns := [], harness := (true, "96c0bac78616fb511b8884461640b29b457ba981bdd8d89952cd3b8b5a966f0c"), looks := false }, kinds := [], alts := [], laidByText := true, laidKinds := [.data], laidTests := true, laidLooks := .later }
def ChainKeepsUptoCardSaid : Prop := Claim7.holds Tryd.pinned (.plain (OpenSpec.upto chainKeepsSpec)) chainKeepsUptoCard

/-- THE SECOND FORM's CARD OF 'rootstocklaw09.ChainEnds'. -/
def chainEndsUptoCard : Claim7 := { stood := { row := chainEndsUptoRow, standIns := [], harness := (true, "96c0bac78616fb511b8884461640b29b457ba981bdd8d89952cd3b8b5a966f0c"), looks := false }, kinds := [], alts := [], laidByText := true, laidKinds := [.data], laidTests := true, laidLooks := .later }
def ChainEndsUptoCardSaid : Prop := Claim7.holds Tryd.pinned (.plain (OpenSpec.upto chainEndsSpec)) chainEndsUptoCard

/-- THE SECOND FORM's CARD OF 'rootstocklaw09.ChainOver'. -/
def chainOverUptoCard : Claim7 := { stood := { row := chainOverUptoRow, standIns := [], harness := (true, "96c0bac78616fb511b8884461640b29b457ba981bdd8d89952cd3b8b5a966f0c"), looks := false }, kinds := [], alts := [], laidByText := true, laidKinds := [.data], laidTests := true, laidLooks := .later }
def ChainOverUptoCardSaid : Prop := Claim7.holds Tryd.pinned (.plain (OpenSpec.upto chainOverSpec)) chainOverUptoCard
end Rows
end Go.Proofs.YtnjnggjbeklmpaaDoor

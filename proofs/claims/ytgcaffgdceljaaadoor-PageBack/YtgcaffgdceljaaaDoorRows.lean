/-
  NARROWER THAN 'FOR EVERY INPUT', by the rows' own cells (each row's printed sentence says how): PageSeals: laid · PageOpens: laid · PageBack: laid · PageHarm: laid · PageApart: laid.
  DERIVED. THE GIVEN ROWS OF THIS SEAT. 5 by the template 'for every input the law returns true; each argument reads behind the call as it read before'; 0 by the template 'total and deterministic' (their statements: YtgcaffgdceljaaaDoorTotals.lean).
  GIVEN WITH THE SEED: the statements are not yours to turn. If you find one false, say at which input.
  Laid BY PROGRAM, IN A SANDBOX (cutbox-rows.mjs): the forced cells as the released guide's own fill.sh prints them over the translation a1701763ccd8a630… (all of the seat's roots in one cut). By AI agents, Wed Nov 11 2026. No macro, syntax, notation, axiom, sorry.
-/
import Derived.Test.YtgcaffgdceljaaaDoorChecked
import GoSem.Claim
import GoSem.ClaimJoined
import GoSem.ClaimMapViews
import Derived.JoinedTies
import Derived.KernelRfl
namespace Go.Proofs.YtgcaffgdceljaaaDoor
/- THE CELL 'sum', in the pinned program and in every row, IS THE sha256 OF THE DUMP (.gsa) THAT YtgcaffgdceljaaaDoorProg.lean LOADS. Nothing in Lean hashes anything: it is a label: what it is worth is what the hold of that sum in a sandbox is worth. -/
noncomputable def Tryd.pinned : Pinned := { name := "ytgcaffgdceljaaadoor", sum := "a1701763ccd8a630d44ebfc56c8b0a5da1525e18178d653072e5f90e9ece6c96", checked := Tryd.checked }
namespace Rows
def none {H : Type} : Left H := { results := [], args := [] }

/- WHAT THE LISTED PACKAGE-LEVEL VARIABLES READ AS WHEN THE CALL BEGINS. Each datum BY PROGRAM (the guide's laid-datum.mjs) off the statement by which the dump's own 'gosem.cut.vars' lays the variable. In a bare row this is a premise. The card (YtgcaffgdceljaaaDoorCards.lean) ties it to the program's text. -/
def laid_rootstock_crc_halves {H : Type} : DataW H := .agg [.lit (.int .u32 0), .lit (.int .u32 498536548), .lit (.int .u32 997073096), .lit (.int .u32 651767980), .lit (.int .u32 1994146192), .lit (.int .u32 1802195444), .lit (.int .u32 1303535960), .lit (.int .u32 1342533948), .lit (.int .u32 3988292384), .lit (.int .u32 4027552580), .lit (.int .u32 3604390888), .lit (.int .u32 3412177804), .lit (.int .u32 2607071920), .lit (.int .u32 2262029012), .lit (.int .u32 2685067896), .lit (.int .u32 3183342108)]

/-- 'rootstocklaw05.PageSeals': WHATEVER THE INPUT: true; the input reads as it did. -/
def pageSealsSpec : ChangeSpec := { name := "pageSeals", fn := fun _ => fun
  | [d1, d2, d3] => { results := [.lit (.bool true)], args := [d1, d2, d3] }
  | _ => none }
def pageSealsRow : OpenClaim := { program := "ytgcaffgdceljaaadoor", sum := "a1701763ccd8a630d44ebfc56c8b0a5da1525e18178d653072e5f90e9ece6c96", func := "rootstock/rootstocklaw05.PageSeals", spec := "pageSeals", inPlace := ["internal/abi.NoEscape", "internal/bytealg.MakeNoZero"], named := ["rootstock/crc.halves"], apart := false, laid := [("rootstock/crc.halves", laid_rootstock_crc_halves)] }
def PageSealsSaid : Prop := pageSealsRow.holds Tryd.pinned (OpenSpec.ofChange pageSealsSpec)

/-- ITS FALSE NEIGHBOUR: 'it returns false'. Refute it at one input. -/
def pageSealsWrong : ChangeSpec := { name := "pageSeals", fn := fun _ => fun
  | [d1, d2, d3] => { results := [.lit (.bool false)], args := [d1, d2, d3] }
  | _ => none }
def PageSealsWrongFalsely : Prop := pageSealsRow.holds Tryd.pinned (OpenSpec.ofChange pageSealsWrong)

/-- 'rootstocklaw05.PageOpens': WHATEVER THE INPUT: true; the input reads as it did. -/
def pageOpensSpec : ChangeSpec := { name := "pageOpens", fn := fun _ => fun
  | [d1, d2] => { results := [.lit (.bool true)], args := [d1, d2] }
  | _ => none }
def pageOpensRow : OpenClaim := { program := "ytgcaffgdceljaaadoor", sum := "a1701763ccd8a630d44ebfc56c8b0a5da1525e18178d653072e5f90e9ece6c96", func := "rootstock/rootstocklaw05.PageOpens", spec := "pageOpens", inPlace := ["internal/abi.NoEscape", "internal/bytealg.MakeNoZero"], named := ["rootstock/crc.halves"], apart := false, laid := [("rootstock/crc.halves", laid_rootstock_crc_halves)] }
def PageOpensSaid : Prop := pageOpensRow.holds Tryd.pinned (OpenSpec.ofChange pageOpensSpec)

/-- ITS FALSE NEIGHBOUR: 'it returns false'. Refute it at one input. -/
def pageOpensWrong : ChangeSpec := { name := "pageOpens", fn := fun _ => fun
  | [d1, d2] => { results := [.lit (.bool false)], args := [d1, d2] }
  | _ => none }
def PageOpensWrongFalsely : Prop := pageOpensRow.holds Tryd.pinned (OpenSpec.ofChange pageOpensWrong)

/-- 'rootstocklaw05.PageBack': WHATEVER THE INPUT: true; the input reads as it did. -/
def pageBackSpec : ChangeSpec := { name := "pageBack", fn := fun _ => fun
  | [d1, d2, d3, d4] => { results := [.lit (.bool true)], args := [d1, d2, d3, d4] }
  | _ => none }
def pageBackRow : OpenClaim := { program := "ytgcaffgdceljaaadoor", sum := "a1701763ccd8a630d44ebfc56c8b0a5da1525e18178d653072e5f90e9ece6c96", func := "rootstock/rootstocklaw05.PageBack", spec := "pageBack", inPlace := ["internal/abi.NoEscape", "internal/bytealg.MakeNoZero"], named := ["rootstock/crc.halves"], apart := false, laid := [("rootstock/crc.halves", laid_rootstock_crc_halves)] }
def PageBackSaid : Prop := pageBackRow.holds Tryd.pinned (OpenSpec.ofChange pageBackSpec)

/-- ITS FALSE NEIGHBOUR: 'it returns false'. Refute it at one input. -/
def pageBackWrong : ChangeSpec := { name := "pageBack", fn := fun _ => fun
  | [d1, d2, d3, d4] => { results := [.lit (.bool false)], args := [d1, d2, d3, d4] }
  | _ => none }
def PageBackWrongFalsely : Prop := pageBackRow.holds Tryd.pinned (OpenSpec.ofChange pageBackWrong)

/-- 'rootstocklaw05.PageHarm': WHATEVER THE INPUT: true; the input reads as it did. -/
def pageHarmSpec : ChangeSpec := { name := "pageHarm", fn := fun _ => fun
  | [d1, d2, d3, d4, d5, d6, d7, d8, d9] => { results := [.lit (.bool true)], args := [d1, d2, d3, d4, d5, d6, d7, d8, d9] }
  | _ => none }
def pageHarmRow : OpenClaim := { program := "ytgcaffgdceljaaadoor", sum := "a1701763ccd8a630d44ebfc56c8b0a5da1525e18178d653072e5f90e9ece6c96", func := "rootstock/rootstocklaw05.PageHarm", spec := "pageHarm", inPlace := ["internal/abi.NoEscape", "internal/bytealg.MakeNoZero"], named := ["rootstock/crc.halves"], apart := false, laid := [("rootstock/crc.halves", laid_rootstock_crc_halves)] }
def PageHarmSaid : Prop := pageHarmRow.holds Tryd.pinned (OpenSpec.ofChange pageHarmSpec)

/-- ITS FALSE NEIGHBOUR: 'it returns false'. Refute it at one input. -/
def pageHarmWrong : ChangeSpec := { name := "pageHarm", fn := fun _ => fun
  | [d1, d2, d3, d4, d5, d6, d7, d8, d9] => { results := [.lit (.bool false)], args := [d1, d2, d3, d4, d5, d6, d7, d8, d9] }
  | _ => none }
def PageHarmWrongFalsely : Prop := pageHarmRow.holds Tryd.pinned (OpenSpec.ofChange pageHarmWrong)

/-- 'rootstocklaw05.PageApart': WHATEVER THE INPUT: true; the input reads as it did. -/
def pageApartSpec : ChangeSpec := { name := "pageApart", fn := fun _ => fun
  | [d1, d2, d3, d4, d5, d6] => { results := [.lit (.bool true)], args := [d1, d2, d3, d4, d5, d6] }
  | _ => none }
def pageApartRow : OpenClaim := { program := "ytgcaffgdceljaaadoor", sum := "a1701763ccd8a630d44ebfc56c8b0a5da1525e18178d653072e5f90e9ece6c96", func := "rootstock/rootstocklaw05.PageApart", spec := "pageApart", inPlace := ["internal/abi.NoEscape", "internal/bytealg.MakeNoZero"], named := ["rootstock/crc.halves"], apart := false, laid := [("rootstock/crc.halves", laid_rootstock_crc_halves)] }
def PageApartSaid : Prop := pageApartRow.holds Tryd.pinned (OpenSpec.ofChange pageApartSpec)

/-- ITS FALSE NEIGHBOUR: 'it returns false'. Refute it at one input. -/
def pageApartWrong : ChangeSpec := { name := "pageApart", fn := fun _ => fun
  | [d1, d2, d3, d4, d5, d6] => { results := [.lit (.bool false)], args := [d1, d2, d3, d4, d5, d6] }
  | _ => none }
def PageApartWrongFalsely : Prop := pageApartRow.holds Tryd.pinned (OpenSpec.ofChange pageApartWrong)

/- THE SECOND FORM. 'bulk': how many values and letters a reading holds, each counted each time it is reached (what is shared counts as often as it is met; a slice's spare places count too). A statement '..UptoSaid' is the law's where the arguments, and the package variables that the reading takes, are together of bulk at most 1048576: NARROWER than '..Said'. Prove '..Said' where nothing that the law and all that it calls make is longer than what came in: it says more and counts as full. Else prove '..UptoSaid'. A law counts once. -/
mutual
def uptoBulk {H : Type} : DataW H → Nat
  | .lit (.string bytes) => bytes.length + 1
  | .lit _ => 1
  | .nil => 1
  | .ptr d => uptoBulk d + 1
  | .slice elems spare => uptoBulkAll elems + uptoBulkAll spare + 1
  | .agg parts => uptoBulkAll parts + 1
  | .iface _ d => uptoBulk d + 1
  | .map entries => uptoBulkEntries entries + 1
  | .held _ => 1
def uptoBulkAll {H : Type} : List (DataW H) → Nat
  | [] => 0
  | d :: r => uptoBulk d + uptoBulkAll r
def uptoBulkEntries {H : Type} : List (Lit × DataW H) → Nat
  | [] => 0
  | x :: r => uptoBulkEntry x + uptoBulkEntries r
def uptoBulkEntry {H : Type} : Lit × DataW H → Nat
  | (.string bytes, d) => bytes.length + uptoBulk d + 1
  | (_, d) => uptoBulk d + 1
 end
def uptoSmall : (H : Type) → List (DataW H) → Bool := fun _ ds => decide (uptoBulkAll ds ≤ 1048576)
def OpenSpec.upto (s : _root_.Go.ChangeSpec) : _root_.Go.OpenSpec := { _root_.Go.OpenSpec.ofChange s with cond := some uptoSmall }

/-- 'rootstocklaw05.PageSeals', WHERE WHAT IT READS IS OF BULK AT MOST 1048576: true; the input reads as it did. -/
def pageSealsUptoRow : OpenClaim := { program := "ytgcaffgdceljaaadoor", sum := "a1701763ccd8a630d44ebfc56c8b0a5da1525e18178d653072e5f90e9ece6c96", func := "rootstock/rootstocklaw05.PageSeals", spec := "pageSeals", inPlace := ["internal/abi.NoEscape", "internal/bytealg.MakeNoZero"], named := ["rootstock/crc.halves"], apart := false, laid := [("rootstock/crc.halves", laid_rootstock_crc_halves)], narrowed := true }
def PageSealsUptoSaid : Prop := pageSealsUptoRow.holds Tryd.pinned (OpenSpec.upto pageSealsSpec)

/-- 'rootstocklaw05.PageOpens', WHERE WHAT IT READS IS OF BULK AT MOST 1048576: true; the input reads as it did. -/
def pageOpensUptoRow : OpenClaim := { program := "ytgcaffgdceljaaadoor", sum := "a1701763ccd8a630d44ebfc56c8b0a5da1525e18178d653072e5f90e9ece6c96", func := "rootstock/rootstocklaw05.PageOpens", spec := "pageOpens", inPlace := ["internal/abi.NoEscape", "internal/bytealg.MakeNoZero"], named := ["rootstock/crc.halves"], apart := false, laid := [("rootstock/crc.halves", laid_rootstock_crc_halves)], narrowed := true }
def PageOpensUptoSaid : Prop := pageOpensUptoRow.holds Tryd.pinned (OpenSpec.upto pageOpensSpec)

/-- 'rootstocklaw05.PageBack', WHERE WHAT IT READS IS OF BULK AT MOST 1048576: true; the input reads as it did. -/
def pageBackUptoRow : OpenClaim := { program := "ytgcaffgdceljaaadoor", sum := "a1701763ccd8a630d44ebfc56c8b0a5da1525e18178d653072e5f90e9ece6c96", func := "rootstock/rootstocklaw05.PageBack", spec := "pageBack", inPlace := ["internal/abi.NoEscape", "internal/bytealg.MakeNoZero"], named := ["rootstock/crc.halves"], apart := false, laid := [("rootstock/crc.halves", laid_rootstock_crc_halves)], narrowed := true }
def PageBackUptoSaid : Prop := pageBackUptoRow.holds Tryd.pinned (OpenSpec.upto pageBackSpec)

/-- 'rootstocklaw05.PageHarm', WHERE WHAT IT READS IS OF BULK AT MOST 1048576: true; the input reads as it did. -/
def pageHarmUptoRow : OpenClaim := { program := "ytgcaffgdceljaaadoor", sum := "a1701763ccd8a630d44ebfc56c8b0a5da1525e18178d653072e5f90e9ece6c96", func := "rootstock/rootstocklaw05.PageHarm", spec := "pageHarm", inPlace := ["internal/abi.NoEscape", "internal/bytealg.MakeNoZero"], named := ["rootstock/crc.halves"], apart := false, laid := [("rootstock/crc.halves", laid_rootstock_crc_halves)], narrowed := true }
def PageHarmUptoSaid : Prop := pageHarmUptoRow.holds Tryd.pinned (OpenSpec.upto pageHarmSpec)

/-- 'rootstocklaw05.PageApart', WHERE WHAT IT READS IS OF BULK AT MOST 1048576: true; the input reads as it did. -/
def pageApartUptoRow : OpenClaim := { program := "ytgcaffgdceljaaadoor", sum := "a1701763ccd8a630d44ebfc56c8b0a5da1525e18178d653072e5f90e9ece6c96", func := "rootstock/rootstocklaw05.PageApart", spec := "pageApart", inPlace := ["internal/abi.NoEscape", "internal/bytealg.MakeNoZero"], named := ["rootstock/crc.halves"], apart := false, laid := [("rootstock/crc.halves", laid_rootstock_crc_halves)], narrowed := true }
def PageApartUptoSaid : Prop := pageApartUptoRow.holds Tryd.pinned (OpenSpec.upto pageApartSpec)

end Rows
end Go.Proofs.YtgcaffgdceljaaaDoor

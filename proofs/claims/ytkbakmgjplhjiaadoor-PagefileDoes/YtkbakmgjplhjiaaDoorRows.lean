/-
  NARROWER THAN 'FOR EVERY INPUT', by the rows' own cells (each row's printed sentence says how): PagefileDoes: laid · PagefileKeeps: laid · PagefileNone: laid · PagefileSure: laid.
  DERIVED. THE GIVEN ROWS OF THIS SEAT. 4 by the template 'for every input the law returns true; each argument reads behind the call as it read before'; 0 by the template 'total and deterministic' (their statements: YtkbakmgjplhjiaaDoorTotals.lean).
  GIVEN WITH THE SEED: the statements are not yours to turn. If you find one false, say at which input.
  Laid BY PROGRAM, IN A SANDBOX (cutbox-rows.mjs): the forced cells as the released guide's own fill.sh prints them over the translation 59bfcde887892138… (all of the seat's roots in one cut). By AI agents, Wed Nov 11 2026. No macro, syntax, notation, axiom, sorry.
-/
import Derived.Test.YtkbakmgjplhjiaaDoorChecked
import GoSem.Claim
import GoSem.ClaimJoined
import GoSem.ClaimMapViews
import Derived.JoinedTies
import Derived.KernelRfl
namespace Go.Proofs.YtkbakmgjplhjiaaDoor
/- THE CELL 'sum', in the pinned program and in every row, IS THE sha256 OF THE DUMP (.gsa) THAT YtkbakmgjplhjiaaDoorProg.lean LOADS. Nothing in Lean hashes anything: it is a label: what it is worth is what the hold of that sum in a sandbox is worth. -/
noncomputable def Tryd.pinned : Pinned := { name := "ytkbakmgjplhjiaadoor", sum := "59bfcde8878921385a8eebe738b6ab9a64a31514cd5305bcb1a2c5c7db6da86a", checked := Tryd.checked }
namespace Rows
def none {H : Type} : Left H := { results := [], args := [] }

/- WHAT THE LISTED PACKAGE-LEVEL VARIABLES READ AS WHEN THE CALL BEGINS. Each datum BY PROGRAM (the guide's laid-datum.mjs) off the statement by which the dump's own 'gosem.cut.vars' lays the variable. In a bare row this is a premise. The card (YtkbakmgjplhjiaaDoorCards.lean) ties it to the program's text. -/
def laid_rootstock_crc_halves {H : Type} : DataW H := .agg [.lit (.int .u32 0), .lit (.int .u32 498536548), .lit (.int .u32 997073096), .lit (.int .u32 651767980), .lit (.int .u32 1994146192), .lit (.int .u32 1802195444), .lit (.int .u32 1303535960), .lit (.int .u32 1342533948), .lit (.int .u32 3988292384), .lit (.int .u32 4027552580), .lit (.int .u32 3604390888), .lit (.int .u32 3412177804), .lit (.int .u32 2607071920), .lit (.int .u32 2262029012), .lit (.int .u32 2685067896), .lit (.int .u32 3183342108)]

/-- 'rootstocklaw06.PagefileDoes': WHATEVER THE INPUT: true; the input reads as it did. -/
def pagefileDoesSpec : ChangeSpec := { name := "pagefileDoes", fn := fun _ => fun
  | [d1, d2] => { results := [.lit (.bool true)], args := [d1, d2] }
  | _ => none }
def pagefileDoesRow : OpenClaim := { program := "ytkbakmgjplhjiaadoor", sum := "59bfcde8878921385a8eebe738b6ab9a64a31514cd5305bcb1a2c5c7db6da86a", func := "rootstock/rootstocklaw06.PagefileDoes", spec := "pagefileDoes", inPlace := ["internal/abi.NoEscape", "internal/bytealg.MakeNoZero", "sync/atomic.AddInt64"], named := ["rootstock/crc.halves"], apart := false, laid := [("rootstock/crc.halves", laid_rootstock_crc_halves)] }
def PagefileDoesSaid : Prop := pagefileDoesRow.holds Tryd.pinned (OpenSpec.ofChange pagefileDoesSpec)

/-- ITS FALSE NEIGHBOUR: 'it returns false'. Refute it at one input. -/
def pagefileDoesWrong : ChangeSpec := { name := "pagefileDoes", fn := fun _ => fun
  | [d1, d2] => { results := [.lit (.bool false)], args := [d1, d2] }
  | _ => none }
def PagefileDoesWrongFalsely : Prop := pagefileDoesRow.holds Tryd.pinned (OpenSpec.ofChange pagefileDoesWrong)

/-- 'rootstocklaw06.PagefileKeeps': WHATEVER THE INPUT: true; the input reads as it did. -/
def pagefileKeepsSpec : ChangeSpec := { name := "pagefileKeeps", fn := fun _ => fun
  | [d] => { results := [.lit (.bool true)], args := [d] }
  | _ => none }
def pagefileKeepsRow : OpenClaim := { program := "ytkbakmgjplhjiaadoor", sum := "59bfcde8878921385a8eebe738b6ab9a64a31514cd5305bcb1a2c5c7db6da86a", func := "rootstock/rootstocklaw06.PagefileKeeps", spec := "pagefileKeeps", inPlace := ["internal/abi.NoEscape", "internal/bytealg.MakeNoZero", "sync/atomic.AddInt64"], named := ["rootstock/crc.halves"], apart := false, laid := [("rootstock/crc.halves", laid_rootstock_crc_halves)] }
def PagefileKeepsSaid : Prop := pagefileKeepsRow.holds Tryd.pinned (OpenSpec.ofChange pagefileKeepsSpec)

/-- ITS FALSE NEIGHBOUR: 'it returns false'. Refute it at one input. -/
def pagefileKeepsWrong : ChangeSpec := { name := "pagefileKeeps", fn := fun _ => fun
  | [d] => { results := [.lit (.bool false)], args := [d] }
  | _ => none }
def PagefileKeepsWrongFalsely : Prop := pagefileKeepsRow.holds Tryd.pinned (OpenSpec.ofChange pagefileKeepsWrong)

/-- 'rootstocklaw06.PagefileNone': WHATEVER THE INPUT: true; the input reads as it did. -/
def pagefileNoneSpec : ChangeSpec := { name := "pagefileNone", fn := fun _ => fun
  | [d1, d2, d3, d4] => { results := [.lit (.bool true)], args := [d1, d2, d3, d4] }
  | _ => none }
def pagefileNoneRow : OpenClaim := { program := "ytkbakmgjplhjiaadoor", sum := "59bfcde8878921385a8eebe738b6ab9a64a31514cd5305bcb1a2c5c7db6da86a", func := "rootstock/rootstocklaw06.PagefileNone", spec := "pagefileNone", inPlace := ["internal/abi.NoEscape", "internal/bytealg.MakeNoZero", "sync/atomic.AddInt64"], named := ["rootstock/crc.halves"], apart := false, laid := [("rootstock/crc.halves", laid_rootstock_crc_halves)] }
def PagefileNoneSaid : Prop := pagefileNoneRow.holds Tryd.pinned (OpenSpec.ofChange pagefileNoneSpec)

/-- ITS FALSE NEIGHBOUR: 'it returns false'. Refute it at one input. -/
def pagefileNoneWrong : ChangeSpec := { name := "pagefileNone", fn := fun _ => fun
  | [d1, d2, d3, d4] => { results := [.lit (.bool false)], args := [d1, d2, d3, d4] }
  | _ => none }
def PagefileNoneWrongFalsely : Prop := pagefileNoneRow.holds Tryd.pinned (OpenSpec.ofChange pagefileNoneWrong)

/-- 'rootstocklaw06.PagefileSure': WHATEVER THE INPUT: true; the input reads as it did. -/
def pagefileSureSpec : ChangeSpec := { name := "pagefileSure", fn := fun _ => fun
  | [d1, d2] => { results := [.lit (.bool true)], args := [d1, d2] }
  | _ => none }
def pagefileSureRow : OpenClaim := { program := "ytkbakmgjplhjiaadoor", sum := "59bfcde8878921385a8eebe738b6ab9a64a31514cd5305bcb1a2c5c7db6da86a", func := "rootstock/rootstocklaw06.PagefileSure", spec := "pagefileSure", inPlace := ["internal/abi.NoEscape", "internal/bytealg.MakeNoZero", "sync/atomic.AddInt64"], named := ["rootstock/crc.halves"], apart := false, laid := [("rootstock/crc.halves", laid_rootstock_crc_halves)] }
def PagefileSureSaid : Prop := pagefileSureRow.holds Tryd.pinned (OpenSpec.ofChange pagefileSureSpec)

/-- ITS FALSE NEIGHBOUR: 'it returns false'. Refute it at one input. -/
def pagefileSureWrong : ChangeSpec := { name := "pagefileSure", fn := fun _ => fun
  | [d1, d2] => { results := [.lit (.bool false)], args := [d1, d2] }
  | _ => none }
def PagefileSureWrongFalsely : Prop := pagefileSureRow.holds Tryd.pinned (OpenSpec.ofChange pagefileSureWrong)

/- THE SECOND FORM. 'bulk': how many values and letters a reading holds, each counted each time it is reached (what is shared counts as often as it is met; a slice's spare places count too). A statement '..UptoSaid' is the law's where the arguments, and the package variables that the reading takes, are together of bulk at most 1048576: NARROWER than '..Said'. Prove '..Said' where nothing that the law and all that it calls make is longer than what came in: it says more and counts as full. Else prove '..UptoSaid'. A law counts once. -/
mutual
def uptoBulk {H : Type} : DataW H → Nat
  | .lit (.string bytes) => bytes.length + 1
  | .lit _ => 1
  | .nil => 1
  | .ptr d => uptoBulk d + 1
  | .slice elems spare => uptoBulkAll elems + uptoBulkAll spare + 1
  | .agg parts => uptoBulkAll parts + 1
  | .iface _ d => uptoBulk d + 1
  | .map entries => uptoBulkEntries entries + 1
  | .held _ => 1
def uptoBulkAll {H : Type} : List (DataW H) → Nat
  | [] => 0
  | d :: r => uptoBulk d + uptoBulkAll r
def uptoBulkEntries {H : Type} : List (Lit × DataW H) → Nat
  | [] => 0
  | x :: r => uptoBulkEntry x + uptoBulkEntries r
def uptoBulkEntry {H : Type} : Lit × DataW H → Nat
  | (.string bytes, d) => bytes.length + uptoBulk d + 1
  | (_, d) => uptoBulk d + 1
 end
def uptoSmall : (H : Type) → List (DataW H) → Bool := fun _ ds => decide (uptoBulkAll ds ≤ 1048576)
def OpenSpec.upto (s : _root_.Go.ChangeSpec) : _root_.Go.OpenSpec := { _root_.Go.OpenSpec.ofChange s with cond := some uptoSmall }

/-- 'rootstocklaw06.PagefileDoes', WHERE WHAT IT READS IS OF BULK AT MOST 1048576: true; the input reads as it did. -/
def pagefileDoesUptoRow : OpenClaim := { program := "ytkbakmgjplhjiaadoor", sum := "59bfcde8878921385a8eebe738b6ab9a64a31514cd5305bcb1a2c5c7db6da86a", func := "rootstock/rootstocklaw06.PagefileDoes", spec := "pagefileDoes", inPlace := ["internal/abi.NoEscape", "internal/bytealg.MakeNoZero", "sync/atomic.AddInt64"], named := ["rootstock/crc.halves"], apart := false, laid := [("rootstock/crc.halves", laid_rootstock_crc_halves)], narrowed := true }
def PagefileDoesUptoSaid : Prop := pagefileDoesUptoRow.holds Tryd.pinned (OpenSpec.upto pagefileDoesSpec)

/-- 'rootstocklaw06.PagefileKeeps', WHERE WHAT IT READS IS OF BULK AT MOST 1048576: true; the input reads as it did. -/
def pagefileKeepsUptoRow : OpenClaim := { program := "ytkbakmgjplhjiaadoor", sum := "59bfcde8878921385a8eebe738b6ab9a64a31514cd5305bcb1a2c5c7db6da86a", func := "rootstock/rootstocklaw06.PagefileKeeps", spec := "pagefileKeeps", inPlace := ["internal/abi.NoEscape", "internal/bytealg.MakeNoZero", "sync/atomic.AddInt64"], named := ["rootstock/crc.halves"], apart := false, laid := [("rootstock/crc.halves", laid_rootstock_crc_halves)], narrowed := true }
def PagefileKeepsUptoSaid : Prop := pagefileKeepsUptoRow.holds Tryd.pinned (OpenSpec.upto pagefileKeepsSpec)

/-- 'rootstocklaw06.PagefileNone', WHERE WHAT IT READS IS OF BULK AT MOST 1048576: true; the input reads as it did. -/
def pagefileNoneUptoRow : OpenClaim := { program := "ytkbakmgjplhjiaadoor", sum := "59bfcde8878921385a8eebe738b6ab9a64a31514cd5305bcb1a2c5c7db6da86a", func := "rootstock/rootstocklaw06.PagefileNone", spec := "pagefileNone", inPlace := ["internal/abi.NoEscape", "internal/bytealg.MakeNoZero", "sync/atomic.AddInt64"], named := ["rootstock/crc.halves"], apart := false, laid := [("rootstock/crc.halves", laid_rootstock_crc_halves)], narrowed := true }
def PagefileNoneUptoSaid : Prop := pagefileNoneUptoRow.holds Tryd.pinned (OpenSpec.upto pagefileNoneSpec)

/-- 'rootstocklaw06.PagefileSure', WHERE WHAT IT READS IS OF BULK AT MOST 1048576: true; the input reads as it did. -/
def pagefileSureUptoRow : OpenClaim := { program := "ytkbakmgjplhjiaadoor", sum := "59bfcde8878921385a8eebe738b6ab9a64a31514cd5305bcb1a2c5c7db6da86a", func := "rootstock/rootstocklaw06.PagefileSure", spec := "pagefileSure", inPlace := ["internal/abi.NoEscape", "internal/bytealg.MakeNoZero", "sync/atomic.AddInt64"], named := ["rootstock/crc.halves"], apart := false, laid := [("rootstock/crc.halves", laid_rootstock_crc_halves)], narrowed := true }
def PagefileSureUptoSaid : Prop := pagefileSureUptoRow.holds Tryd.pinned (OpenSpec.upto pagefileSureSpec)

end Rows
end Go.Proofs.YtkbakmgjplhjiaaDoor

/-
  NARROWER THAN 'FOR EVERY INPUT', by the rows' own cells (each row's printed sentence says how): TreeDoes: laid · TreeOld: laid · TreeErrs: laid · TreeHarm: laid · TreeRaw: laid · TreeTight: laid.
  DERIVED. THE GIVEN ROWS OF THIS SEAT. 6 by the template 'for every input the law returns true; each argument reads behind the call as it read before'; 0 by the template 'total and deterministic' (their statements: YtceoeaemenhbhaaGreatDoorTotals.lean).
  GIVEN WITH THE SEED: the statements are not yours to turn. If you find one false, say at which input.
  Laid BY PROGRAM, IN A SANDBOX (cutbox-rows.mjs): the forced cells as the released guide's own fill.sh prints them over the translation 9917c7640890a909… (all of the seat's roots in one cut). By AI agents, Wed Nov 11 2026. No macro, syntax, notation, axiom, sorry.
-/
import Derived.Test.YtceoeaemenhbhaaGreatDoorChecked
import GoSem.Claim
import GoSem.ClaimJoined
import GoSem.ClaimMapViews
import Derived.JoinedTies
import Derived.KernelRfl
namespace Go.Proofs.YtceoeaemenhbhaaGreatDoor
/- THE CELL 'sum', in the pinned program and in every row, IS THE sha256 OF THE DUMP (.gsa) THAT YtceoeaemenhbhaaGreatDoorProg.lean LOADS. Nothing in Lean hashes anything: it is a label: what it is worth is what the hold of that sum in a sandbox is worth. -/
noncomputable def Tryz.pinned : Pinned := { name := "ytceoeaemenhbhaagreatdoor", sum := "9917c7640890a909b52112ca4428cde1f1d3279b525ba2e7214bab95c43fe979", checked := Tryz.checked }
namespace Rows
def none {H : Type} : Left H := { results := [], args := [] }

/- WHAT THE LISTED PACKAGE-LEVEL VARIABLES READ AS WHEN THE CALL BEGINS. Each datum BY PROGRAM (the guide's laid-datum.mjs) off the statement by which the dump's own 'gosem.cut.vars' lays the variable. In a bare row this is a premise. The card (YtceoeaemenhbhaaGreatDoorCards.lean) ties it to the program's text. -/
def laid_rootstock_crc_halves {H : Type} : DataW H := .agg [.lit (.int .u32 0), .lit (.int .u32 498536548), .lit (.int .u32 997073096), .lit (.int .u32 651767980), .lit (.int .u32 1994146192), .lit (.int .u32 1802195444), .lit (.int .u32 1303535960), .lit (.int .u32 1342533948), .lit (.int .u32 3988292384), .lit (.int .u32 4027552580), .lit (.int .u32 3604390888), .lit (.int .u32 3412177804), .lit (.int .u32 2607071920), .lit (.int .u32 2262029012), .lit (.int .u32 2685067896), .lit (.int .u32 3183342108)]

/-- 'rootstocklaw13.TreeDoes': WHATEVER THE INPUT: true; the input reads as it did. -/
def treeDoesSpec : ChangeSpec := { name := "treeDoes", fn := fun _ => fun
  | [d] => { results := [.lit (.bool true)], args := [d] }
  | _ => none }
def treeDoesRow : OpenClaim := { program := "ytceoeaemenhbhaagreatdoor", sum := "9917c7640890a909b52112ca4428cde1f1d3279b525ba2e7214bab95c43fe979", func := "rootstock/rootstocklaw13.TreeDoes", spec := "treeDoes", inPlace := ["internal/abi.NoEscape", "internal/bytealg.MakeNoZero", "internal/bytealg.abigen_runtime_cmpstring", "sync/atomic.AddInt64", "slices.overlaps[rootstock/node.Node]", "slices.overlaps[string]"], unfollowed := true, recurses := true, named := ["rootstock/crc.halves"], apart := false, laid := [("rootstock/crc.halves", laid_rootstock_crc_halves)] }
def TreeDoesSaid : Prop := treeDoesRow.holds Tryz.pinned (OpenSpec.ofChange treeDoesSpec)

/-- ITS FALSE NEIGHBOUR: 'it returns false'. Refute it at one input. -/
def treeDoesWrong : ChangeSpec := { name := "treeDoes", fn := fun _ => fun
  | [d] => { results := [.lit (.bool false)], args := [d] }
  | _ => none }
def TreeDoesWrongFalsely : Prop := treeDoesRow.holds Tryz.pinned (OpenSpec.ofChange treeDoesWrong)

/-- 'rootstocklaw13.TreeOld': WHATEVER THE INPUT: true; the input reads as it did. -/
def treeOldSpec : ChangeSpec := { name := "treeOld", fn := fun _ => fun
  | [d] => { results := [.lit (.bool true)], args := [d] }
  | _ => none }
def treeOldRow : OpenClaim := { program := "ytceoeaemenhbhaagreatdoor", sum := "9917c7640890a909b52112ca4428cde1f1d3279b525ba2e7214bab95c43fe979", func := "rootstock/rootstocklaw13.TreeOld", spec := "treeOld", inPlace := ["internal/abi.NoEscape", "internal/bytealg.MakeNoZero", "internal/bytealg.abigen_runtime_cmpstring", "sync/atomic.AddInt64", "slices.overlaps[rootstock/node.Node]", "slices.overlaps[string]"], unfollowed := true, recurses := true, named := ["rootstock/crc.halves"], apart := false, laid := [("rootstock/crc.halves", laid_rootstock_crc_halves)] }
def TreeOldSaid : Prop := treeOldRow.holds Tryz.pinned (OpenSpec.ofChange treeOldSpec)

/-- ITS FALSE NEIGHBOUR: 'it returns false'. Refute it at one input. -/
def treeOldWrong : ChangeSpec := { name := "treeOld", fn := fun _ => fun
  | [d] => { results := [.lit (.bool false)], args := [d] }
  | _ => none }
def TreeOldWrongFalsely : Prop := treeOldRow.holds Tryz.pinned (OpenSpec.ofChange treeOldWrong)

/-- 'rootstocklaw13.TreeErrs': WHATEVER THE INPUT: true; the input reads as it did. -/
def treeErrsSpec : ChangeSpec := { name := "treeErrs", fn := fun _ => fun
  | [d1, d2, d3] => { results := [.lit (.bool true)], args := [d1, d2, d3] }
  | _ => none }
def treeErrsRow : OpenClaim := { program := "ytceoeaemenhbhaagreatdoor", sum := "9917c7640890a909b52112ca4428cde1f1d3279b525ba2e7214bab95c43fe979", func := "rootstock/rootstocklaw13.TreeErrs", spec := "treeErrs", inPlace := ["internal/abi.NoEscape", "internal/bytealg.MakeNoZero", "internal/bytealg.abigen_runtime_cmpstring", "sync/atomic.AddInt64", "slices.overlaps[rootstock/node.Node]", "slices.overlaps[string]"], unfollowed := true, recurses := true, named := ["rootstock/crc.halves"], apart := false, laid := [("rootstock/crc.halves", laid_rootstock_crc_halves)] }
def TreeErrsSaid : Prop := treeErrsRow.holds Tryz.pinned (OpenSpec.ofChange treeErrsSpec)

/-- ITS FALSE NEIGHBOUR: 'it returns false'. Refute it at one input. -/
def treeErrsWrong : ChangeSpec := { name := "treeErrs", fn := fun _ => fun
  | [d1, d2, d3] => { results := [.lit (.bool false)], args := [d1, d2, d3] }
  | _ => none }
def TreeErrsWrongFalsely : Prop := treeErrsRow.holds Tryz.pinned (OpenSpec.ofChange treeErrsWrong)

/-- 'rootstocklaw13.TreeHarm': WHATEVER THE INPUT: true; the input reads as it did. -/
def treeHarmSpec : ChangeSpec := { name := "treeHarm", fn := fun _ => fun
  | [d1, d2, d3, d4] => { results := [.lit (.bool true)], args := [d1, d2, d3, d4] }
  | _ => none }
def treeHarmRow : OpenClaim := { program := "ytceoeaemenhbhaagreatdoor", sum := "9917c7640890a909b52112ca4428cde1f1d3279b525ba2e7214bab95c43fe979", func := "rootstock/rootstocklaw13.TreeHarm", spec := "treeHarm", inPlace := ["internal/abi.NoEscape", "internal/bytealg.MakeNoZero", "internal/bytealg.abigen_runtime_cmpstring", "sync/atomic.AddInt64", "slices.overlaps[rootstock/node.Node]", "slices.overlaps[string]", "sync/atomic.LoadInt64"], unfollowed := true, recurses := true, named := ["rootstock/crc.halves"], apart := false, laid := [("rootstock/crc.halves", laid_rootstock_crc_halves)] }
def TreeHarmSaid : Prop := treeHarmRow.holds Tryz.pinned (OpenSpec.ofChange treeHarmSpec)

/-- ITS FALSE NEIGHBOUR: 'it returns false'. Refute it at one input. -/
def treeHarmWrong : ChangeSpec := { name := "treeHarm", fn := fun _ => fun
  | [d1, d2, d3, d4] => { results := [.lit (.bool false)], args := [d1, d2, d3, d4] }
  | _ => none }
def TreeHarmWrongFalsely : Prop := treeHarmRow.holds Tryz.pinned (OpenSpec.ofChange treeHarmWrong)

/-- 'rootstocklaw13.TreeRaw': WHATEVER THE INPUT: true; the input reads as it did. -/
def treeRawSpec : ChangeSpec := { name := "treeRaw", fn := fun _ => fun
  | [d1, d2, d3] => { results := [.lit (.bool true)], args := [d1, d2, d3] }
  | _ => none }
def treeRawRow : OpenClaim := { program := "ytceoeaemenhbhaagreatdoor", sum := "9917c7640890a909b52112ca4428cde1f1d3279b525ba2e7214bab95c43fe979", func := "rootstock/rootstocklaw13.TreeRaw", spec := "treeRaw", inPlace := ["internal/abi.NoEscape", "internal/bytealg.MakeNoZero", "internal/bytealg.abigen_runtime_cmpstring", "sync/atomic.AddInt64", "slices.overlaps[rootstock/node.Node]", "slices.overlaps[string]"], unfollowed := true, recurses := true, named := ["rootstock/crc.halves"], apart := false, laid := [("rootstock/crc.halves", laid_rootstock_crc_halves)] }
def TreeRawSaid : Prop := treeRawRow.holds Tryz.pinned (OpenSpec.ofChange treeRawSpec)

/-- ITS FALSE NEIGHBOUR: 'it returns false'. Refute it at one input. -/
def treeRawWrong : ChangeSpec := { name := "treeRaw", fn := fun _ => fun
  | [d1, d2, d3] => { results := [.lit (.bool false)], args := [d1, d2, d3] }
  | _ => none }
def TreeRawWrongFalsely : Prop := treeRawRow.holds Tryz.pinned (OpenSpec.ofChange treeRawWrong)

/-- 'rootstocklaw13.TreeTight': WHATEVER THE INPUT: true; the input reads as it did. -/
def treeTightSpec : ChangeSpec := { name := "treeTight", fn := fun _ => fun
  | [d] => { results := [.lit (.bool true)], args := [d] }
  | _ => none }
def treeTightRow : OpenClaim := { program := "ytceoeaemenhbhaagreatdoor", sum := "9917c7640890a909b52112ca4428cde1f1d3279b525ba2e7214bab95c43fe979", func := "rootstock/rootstocklaw13.TreeTight", spec := "treeTight", inPlace := ["internal/abi.NoEscape", "internal/bytealg.MakeNoZero", "internal/bytealg.abigen_runtime_cmpstring", "sync/atomic.AddInt64", "slices.overlaps[rootstock/node.Node]", "slices.overlaps[string]"], unfollowed := true, recurses := true, named := ["rootstock/crc.halves"], apart := false, laid := [("rootstock/crc.halves", laid_rootstock_crc_halves)] }
def TreeTightSaid : Prop := treeTightRow.holds Tryz.pinned (OpenSpec.ofChange treeTightSpec)

/-- ITS FALSE NEIGHBOUR: 'it returns false'. Refute it at one input. -/
def treeTightWrong : ChangeSpec := { name := "treeTight", fn := fun _ => fun
  | [d] => { results := [.lit (.bool false)], args := [d] }
  | _ => none }
def TreeTightWrongFalsely : Prop := treeTightRow.holds Tryz.pinned (OpenSpec.ofChange treeTightWrong)

/- THE SECOND FORM. 'bulk': how many values and letters a reading holds, each counted each time it is reached (what is shared counts as often as it is met; a slice's spare places count too). A statement '..UptoSaid' is the law's where the arguments, and the package variables that the reading takes, are together of bulk at most 1048576: NARROWER than '..Said'. Prove '..Said' where nothing that the law and all that it calls make is longer than what came in: it says more and counts as full. Else prove '..UptoSaid'. A law counts once. -/
mutual
def uptoBulk {H : Type} : DataW H → Nat
  | .lit (.string bytes) => bytes.length + 1
  | .lit _ => 1
  | .nil => 1
  | .ptr d => uptoBulk d + 1
  | .slice elems spare => uptoBulkAll elems + uptoBulkAll spare + 1
  | .agg parts => uptoBulkAll parts + 1
  | .iface _ d => uptoBulk d + 1
  | .map entries => uptoBulkEntries entries + 1
  | .held _ => 1
def uptoBulkAll {H : Type} : List (DataW H) → Nat
  | [] => 0
  | d :: r => uptoBulk d + uptoBulkAll r
def uptoBulkEntries {H : Type} : List (Lit × DataW H) → Nat
  | [] => 0
  | x :: r => uptoBulkEntry x + uptoBulkEntries r
def uptoBulkEntry {H : Type} : Lit × DataW H → Nat
  | (.string bytes, d) => bytes.length + uptoBulk d + 1
  | (_, d) => uptoBulk d + 1
 end
def uptoSmall : (H : Type) → List (DataW H) → Bool := fun _ ds => decide (uptoBulkAll ds ≤ 1048576)
def OpenSpec.upto (s : _root_.Go.ChangeSpec) : _root_.Go.OpenSpec := { _root_.Go.OpenSpec.ofChange s with cond := some uptoSmall }

/-- 'rootstocklaw13.TreeDoes', WHERE WHAT IT READS IS OF BULK AT MOST 1048576: true; the input reads as it did. -/
def treeDoesUptoRow : OpenClaim := { program := "ytceoeaemenhbhaagreatdoor", sum := "9917c7640890a909b52112ca4428cde1f1d3279b525ba2e7214bab95c43fe979", func := "rootstock/rootstocklaw13.TreeDoes", spec := "treeDoes", inPlace := ["internal/abi.NoEscape", "internal/bytealg.MakeNoZero", "internal/bytealg.abigen_runtime_cmpstring", "sync/atomic.AddInt64", "slices.overlaps[rootstock/node.Node]", "slices.overlaps[string]"], unfollowed := true, recurses := true, named := ["rootstock/crc.halves"], apart := false, laid := [("rootstock/crc.halves", laid_rootstock_crc_halves)], narrowed := true }
def TreeDoesUptoSaid : Prop := treeDoesUptoRow.holds Tryz.pinned (OpenSpec.upto treeDoesSpec)

/-- 'rootstocklaw13.TreeOld', WHERE WHAT IT READS IS OF BULK AT MOST 1048576: true; the input reads as it did. -/
def treeOldUptoRow : OpenClaim := { program := "ytceoeaemenhbhaagreatdoor", sum := "9917c7640890a909b52112ca4428cde1f1d3279b525ba2e7214bab95c43fe979", func := "rootstock/rootstocklaw13.TreeOld", spec := "treeOld", inPlace := ["internal/abi.NoEscape", "internal/bytealg.MakeNoZero", "internal/bytealg.abigen_runtime_cmpstring", "sync/atomic.AddInt64", "slices.overlaps[rootstock/node.Node]", "slices.overlaps[string]"], unfollowed := true, recurses := true, named := ["rootstock/crc.halves"], apart := false, laid := [("rootstock/crc.halves", laid_rootstock_crc_halves)], narrowed := true }
def TreeOldUptoSaid : Prop := treeOldUptoRow.holds Tryz.pinned (OpenSpec.upto treeOldSpec)

/-- 'rootstocklaw13.TreeErrs', WHERE WHAT IT READS IS OF BULK AT MOST 1048576: true; the input reads as it did. -/
def treeErrsUptoRow : OpenClaim := { program := "ytceoeaemenhbhaagreatdoor", sum := "9917c7640890a909b52112ca4428cde1f1d3279b525ba2e7214bab95c43fe979", func := "rootstock/rootstocklaw13.TreeErrs", spec := "treeErrs", inPlace := ["internal/abi.NoEscape", "internal/bytealg.MakeNoZero", "internal/bytealg.abigen_runtime_cmpstring", "sync/atomic.AddInt64", "slices.overlaps[rootstock/node.Node]", "slices.overlaps[string]"], unfollowed := true, recurses := true, named := ["rootstock/crc.halves"], apart := false, laid := [("rootstock/crc.halves", laid_rootstock_crc_halves)], narrowed := true }
def TreeErrsUptoSaid : Prop := treeErrsUptoRow.holds Tryz.pinned (OpenSpec.upto treeErrsSpec)

/-- 'rootstocklaw13.TreeHarm', WHERE WHAT IT READS IS OF BULK AT MOST 1048576: true; the input reads as it did. -/
def treeHarmUptoRow : OpenClaim := { program := "ytceoeaemenhbhaagreatdoor", sum := "9917c7640890a909b52112ca4428cde1f1d3279b525ba2e7214bab95c43fe979", func := "rootstock/rootstocklaw13.TreeHarm", spec := "treeHarm", inPlace := ["internal/abi.NoEscape", "internal/bytealg.MakeNoZero", "internal/bytealg.abigen_runtime_cmpstring", "sync/atomic.AddInt64", "slices.overlaps[rootstock/node.Node]", "slices.overlaps[string]", "sync/atomic.LoadInt64"], unfollowed := true, recurses := true, named := ["rootstock/crc.halves"], apart := false, laid := [("rootstock/crc.halves", laid_rootstock_crc_halves)], narrowed := true }
def TreeHarmUptoSaid : Prop := treeHarmUptoRow.holds Tryz.pinned (OpenSpec.upto treeHarmSpec)

/-- 'rootstocklaw13.TreeRaw', WHERE WHAT IT READS IS OF BULK AT MOST 1048576: true; the input reads as it did. -/
def treeRawUptoRow : OpenClaim := { program := "ytceoeaemenhbhaagreatdoor", sum := "9917c7640890a909b52112ca4428cde1f1d3279b525ba2e7214bab95c43fe979", func := "rootstock/rootstocklaw13.TreeRaw", spec := "treeRaw", inPlace := ["internal/abi.NoEscape", "internal/bytealg.MakeNoZero", "internal/bytealg.abigen_runtime_cmpstring", "sync/atomic.AddInt64", "slices.overlaps[rootstock/node.Node]", "slices.overlaps[string]"], unfollowed := true, recurses := true, named := ["rootstock/crc.halves"], apart := false, laid := [("rootstock/crc.halves", laid_rootstock_crc_halves)], narrowed := true }
def TreeRawUptoSaid : Prop := treeRawUptoRow.holds Tryz.pinned (OpenSpec.upto treeRawSpec)

/-- 'rootstocklaw13.TreeTight', WHERE WHAT IT READS IS OF BULK AT MOST 1048576: true; the input reads as it did. -/
def treeTightUptoRow : OpenClaim := { program := "ytceoeaemenhbhaagreatdoor", sum := "9917c7640890a909b52112ca4428cde1f1d3279b525ba2e7214bab95c43fe979", func := "rootstock/rootstocklaw13.TreeTight", spec := "treeTight", inPlace := ["internal/abi.NoEscape", "internal/bytealg.MakeNoZero", "internal/bytealg.abigen_runtime_cmpstring", "sync/atomic.AddInt64", "slices.overlaps[rootstock/node.Node]", "slices.overlaps[string]"], unfollowed := true, recurses := true, named := ["rootstock/crc.halves"], apart := false, laid := [("rootstock/crc.halves", laid_rootstock_crc_halves)], narrowed := true }
def TreeTightUptoSaid : Prop := treeTightUptoRow.holds Tryz.pinned (OpenSpec.upto treeTightSpec)

end Rows
end Go.Proofs.YtceoeaemenhbhaaGreatDoor

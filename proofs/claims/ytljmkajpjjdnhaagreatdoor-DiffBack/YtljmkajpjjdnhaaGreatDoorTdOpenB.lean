/-
  The law DiffBack over arguments that are opened.
-/
import Derived.Test.YtljmkajpjjdnhaaGreatDoorTdBackWalk
import Derived.Test.YtljmkajpjjdnhaaGreatDoorTdPass
import Derived.Test.YtljmkajpjjdnhaaGreatDoorEnOpen
namespace Go.Proofs.YtljmkajpjjdnhaaGreatDoor.N
open Go.Shelf Go.RowKit Go.Lib Go.Sort
set_option linter.unusedVariables false
set_option linter.unusedSectionVars false
variable [DecidableEq Dl] [Inhabited Dl] [Inhabited Th]

theorem diffBack_f (va : Value) (a : List En) (vb : Value) (b : List En) (w : World) (ha : RowN w va a) (hb : RowN w vb b) :
    Calls Tryz.prog 4 #[va, vb] w fun e w' => e = .returned (.bool true) ∧ Below w.heap.size w w' := diffBack passOk va vb a b w ha.1 hb.1 ha.2 hb.2

end Go.Proofs.YtljmkajpjjdnhaaGreatDoor.N

/-
  What passKey answers, said ahead of its walk.
-/
import Derived.Test.YtljmkajpjjdnhaaGreatDoorTdGo
namespace Go.Proofs.YtljmkajpjjdnhaaGreatDoor.N
open Go.Shelf Go.RowKit Go.Lib Go.Sort
set_option linter.unusedVariables false
set_option linter.unusedSectionVars false
variable [DecidableEq Dl] [Inhabited Dl] [Inhabited Th]
def GP (B : Nat) (w0 : World) (q : Nat) (a b : List En) (ds : List Dl) (l : List Res) (e : Ending) (w' : World) : Prop :=
  ∃ aa ab ad ca cb cd, e = .returned (.tuple #[]) ∧ Sep B w0 w' (WkL q a b ds l aa ab ad ca cb cd)
theorem passEnd {B : Nat} {w0 w : World} {l : List Res} {q qx qy : Nat} {ox oy : Obj} {a b : List En} {ds : List Dl} {aa ab ad : Option Addr} {ca cb cd : Nat} (h : Sep B w0 w (Blk q (wkO (.slice aa a.length ca) (.slice ab b.length cb) (.slice ad ds.length cd)) :: Blk qy oy :: Blk qx ox :: StE (.slice ab b.length cb) b :: StE (.slice aa a.length ca) a :: DeR (.slice ad ds.length cd) ds :: l)) : Sep B w0 w (WkL q a b ds l aa ab ad ca cb cd) :=
  (Sep.pk [_] (Sep.pk [_] h).drop).drop.map fun _ h => Hp.under h fun _ => Hp.swap
def PassOk : Prop := ∀ {B : Nat} {w0 w : World} {l : List Res} {q : Nat} {aa ab ad : Option Addr} {ca cb cd : Nat} (x y : En) (a b : List En) (ds : List Dl) (_ : a.length ≤ 100000) (_ : b.length ≤ 100000) (_ : ds.length < 100000) (_ : Sep B w0 w (WkL q (x :: a) (y :: b) ds l aa ab ad ca cb cd)), Calls Tryz.prog 48 #[pt q, eV x.1 x.2, eV y.1 y.2] w (GP B w0 q a b (ds ++ if x.2 = y.2 then [] else [dC x y]) l)

end Go.Proofs.YtljmkajpjjdnhaaGreatDoor.N

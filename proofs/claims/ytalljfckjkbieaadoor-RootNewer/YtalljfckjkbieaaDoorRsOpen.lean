/-
  Arguments opened: a root, out of what the form says of an argument.
-/
import Derived.Test.YtalljfckjkbieaaDoorRsRef
import Derived.ProofKit
import Derived.OpenShut
import Derived.ChangeOld
import Derived.Below
import Derived.ChangeSlices
import Derived.Deep.Slices
namespace Go.Proofs.YtalljfckjkbieaaDoor
open Go.Deep Go.ChangeShapes Go.WideShapes Go.ChangeAt Go.RowKit Go.ChangeMaps
set_option linter.unusedVariables false

variable {H : Type} {enc : TypeId × Value → H} {W : World} {base : Nat} {spare : Nat → Bool} {held : Bool} {fuel : Nat} {x : DataW H × List MemPlace}

theorem trod_struct5 {P : Program} {w : World} {t : TypeId} {f0 f1 f2 f3 f4 : Field} {fuel : Nat} {cs : List Value} {x : DataW H × List MemPlace} (ht : P.underlying t = some (.struct #[f0, f1, f2, f3, f4])) (h : DataW.trod enc P w base spare held fuel t cs = some x) :
    ∃ y0 y1 y2 y3 y4 n, cs.length = P.cellsOf t ∧ DataW.trod enc P w base spare held n f0.type ((cs.drop f0.offset).take (P.cellsOf f0.type)) = some y0 ∧
      DataW.trod enc P w base spare held n f1.type ((cs.drop f1.offset).take (P.cellsOf f1.type)) = some y1 ∧ DataW.trod enc P w base spare held n f2.type ((cs.drop f2.offset).take (P.cellsOf f2.type)) = some y2 ∧
      DataW.trod enc P w base spare held n f3.type ((cs.drop f3.offset).take (P.cellsOf f3.type)) = some y3 ∧ DataW.trod enc P w base spare held n f4.type ((cs.drop f4.offset).take (P.cellsOf f4.type)) = some y4 := by
  obtain ⟨xs, n, _, rfl, hl, hlen, hf⟩ := DataW.trod_struct ht h
  match xs, hlen with
  | [y0, y1, y2, y3, y4], _ => exact ⟨y0, y1, y2, y3, y4, n, hl, by simpa using hf 0 f0 rfl, by simpa using hf 1 f1 rfl, by simpa using hf 2 f2 rfl, by simpa using hf 3 f3 rfl, by simpa using hf 4 f4 rfl⟩

set_option maxRecDepth 100000 in
theorem open_five {cs : List Value} (hl : cs.length = 5) (h : DataW.trod enc Tryd.prog W base spare held fuel 23 cs = some x) : ∃ r : Rt, cs = [.int .i64 r.ep, .int .i64 r.pg, .int .i64 r.ct, .int .i64 r.fr, .int .i64 r.nx] ∧ r.wf := by
  have ci : Tryd.prog.cellsOf 3 = 1 := by kernel_rfl
  obtain ⟨y0, y1, y2, y3, y4, k, _, g0, g1, g2, g3, g4⟩ := trod_struct5 Tryd.underlying23 h
  match cs, hl with
  | [v0, v1, v2, v3, v4], _ =>
    simp [ci] at g0 g1 g2 g3 g4
    obtain ⟨z0, e0, _, w0⟩ := DataW.trod_int Tryd.underlying3 g0
    obtain ⟨z1, e1, _, w1⟩ := DataW.trod_int Tryd.underlying3 g1
    obtain ⟨z2, e2, _, w2⟩ := DataW.trod_int Tryd.underlying3 g2
    obtain ⟨z3, e3, _, w3⟩ := DataW.trod_int Tryd.underlying3 g3
    obtain ⟨z4, e4, _, w4⟩ := DataW.trod_int Tryd.underlying3 g4
    simp only [List.cons.injEq, and_true] at e0 e1 e2 e3 e4
    subst e0 e1 e2 e3 e4
    exact ⟨⟨z0, z1, z2, z3, z4⟩, rfl, (bounds_i64 w0).2, (bounds_i64 w1).2, (bounds_i64 w2).2, (bounds_i64 w3).2, (bounds_i64 w4).2⟩

set_option maxRecDepth 100000 in
theorem open_root {v : Value} {r : Reach} {b0 : Nat} (hval : Value.okWide Tryd.prog W r b0 23 v) (h : DataW.trod enc Tryd.prog W base spare held fuel 23 v.cells.toList = some x) : ∃ r : Rt, v = rtV r ∧ r.wf := by
  obtain ⟨cs, rfl, hcs⟩ := okWide_struct Tryd.underlying23 hval
  have cp : Tryd.prog.cellsOf 23 = 5 := by kernel_rfl
  rw [cp] at hcs
  obtain ⟨r, e, hw⟩ := open_five (cs := cs.toList) (by simpa using hcs) (by simpa [Value.cells] using h)
  exact ⟨r, by rw [rtV]; congr 1; exact Array.toList_inj.1 (by simpa using e), hw⟩

end Go.Proofs.YtalljfckjkbieaaDoor

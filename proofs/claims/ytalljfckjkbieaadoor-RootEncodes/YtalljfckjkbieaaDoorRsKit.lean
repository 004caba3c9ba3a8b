/-
  A block of cells, written by one's own hand: what it holds behind a store, and behind what others do.
-/
import Derived.Test.YtalljfckjkbieaaDoorCdMid
import Derived.Test.YtalljfckjkbieaaDoorCdPut
import Derived.WalkKit
namespace Go.Proofs.YtalljfckjkbieaaDoor
open Go.RowKit

section
variable {w w' : World} {q i k : Nat} {cs : Array Value} {t : TypeId}
/-- Block q holds these cells. -/
def Cl (w : World) (q : Nat) (cs : Array Value) (t : TypeId) : Prop := w.heap[q]? = some (.cells cs t (0, 0))
theorem Cl.lt (h : Cl w q cs t) : q < w.heap.size := (Array.getElem?_eq_some_iff.1 h).1
theorem Cl.cell (h : Cl w q cs t) (i : Nat) : w.cell? ⟨q, i, none⟩ = cs[i]? := by unfold Cl at h; simp [World.cell?, h]
theorem Cl.frozen (h : Cl w q cs t) (i : Nat) : w.frozen? ⟨q, i, none⟩ = false := by unfold Cl at h; simp [World.frozen?, h]
theorem Cl.at (h : Cl w q cs t) (i : Nat) {v : Value} (e : cs[i]? = some v) : w.cell? ⟨q, i, none⟩ = some v ∧ w.frozen? ⟨q, i, none⟩ = false := ⟨(h.cell i).trans e, h.frozen i⟩
theorem Cl.set (h : Cl w q cs t) (i : Nat) (v : Value) : Cl (w.setCell ⟨q, i, none⟩ v) q (cs.setIfInBounds i v) t := by
  unfold Cl at h ⊢; simp [World.setCell, Array.getElem?_modify, h]
theorem Cl.new (w : World) (cs : Array Value) (t : TypeId) : Cl (w.alloc (.cells cs t)) w.heap.size cs t := by
  show (w.heap.push _)[w.heap.size]? = _; simp
theorem Cl.below {B : Nat} (h : Cl w q cs t) (b : Below B w w') (hq : q < B) : Cl w' q cs t := (b.block q hq).trans h
theorem Cl.on (h : Cl w q cs t) (b : Below w.heap.size w w') : Cl w' q cs t := h.below b h.lt
theorem Cl.only {b : Nat} (h : Cl w q cs t) (o : Only b w w') (hq : q ≠ b) : Cl w' q cs t := (o.block q hq).trans h
theorem Cl.alloc (h : Cl w q cs t) (o : Obj) : Cl (w.alloc o) q cs t := h.on ((Below.refl _ _).alloc (Nat.le_refl _) _)
theorem Cl.five {a b c d e : Value} (h : Cl w q #[a, b, c, d, e] t) : w.cell? ⟨q, 0, none⟩ = some a ∧ w.cell? ⟨q, 1, none⟩ = some b ∧ w.cell? ⟨q, 2, none⟩ = some c ∧ w.cell? ⟨q, 3, none⟩ = some d ∧ w.cell? ⟨q, 4, none⟩ = some e :=
  ⟨h.cell 0, h.cell 1, h.cell 2, h.cell 3, h.cell 4⟩
/-- All five cells written one after the other. -/
def set5 (w : World) (q : Nat) (a b c d e : Value) : World := ((((w.setCell ⟨q, 0, none⟩ a).setCell ⟨q, 1, none⟩ b).setCell ⟨q, 2, none⟩ c).setCell ⟨q, 3, none⟩ d).setCell ⟨q, 4, none⟩ e
theorem Cl.set5 {x0 x1 x2 x3 x4 : Value} (h : Cl w q #[x0, x1, x2, x3, x4] t) (a b c d e : Value) : Cl (set5 w q a b c d e) q #[a, b, c, d, e] t :=
  ((((h.set 0 a).set 1 b).set 2 c).set 3 d).set 4 e
theorem only_set5 (w : World) (q : Nat) (a b c d e : Value) : Only q w (Go.Proofs.YtalljfckjkbieaaDoor.set5 w q a b c d e) :=
  ((((Only.setCell q 0 w a).trans (Only.setCell q 1 _ b)).trans (Only.setCell q 2 _ c)).trans (Only.setCell q 3 _ d)).trans (Only.setCell q 4 _ e)
theorem Cl.five_ok {a b c d e : Value} (h : Cl w q #[a, b, c, d, e] t) : ∀ i, i < 5 → w.frozen? ⟨q, i, none⟩ = false := fun i _ => h.frozen i
end

theorem results_cell {fn : Func} {p : Tmp} {ty : TypeId} (h : fn.results = #[.cell p ty]) (tmps : Array Value) (P : Program) (w : World) :
    (results fn tmps).run P w = ((asAddr (tmps.getD p undef)).run P w).andThen fun a w₁ => (loadVar ty a).run P w₁ := by
  simp only [results, h]
  simp [Sem.run_bind, Result.andThen]

end Go.Proofs.YtalljfckjkbieaaDoor

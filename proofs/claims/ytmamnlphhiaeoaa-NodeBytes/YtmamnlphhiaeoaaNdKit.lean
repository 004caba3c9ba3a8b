/-
  Blocks that a region lays in whatever order; a block of four cells that is written at the end.
-/
import Derived.Test.YtmamnlphhiaeoaaNdJoin
import Derived.Test.YtmamnlphhiaeoaaEnRef3
namespace Go.Proofs.Ytmamnlphhiaeoaa
open Go.Shelf Go.RowKit Go.Lib Go.Sort

theorem belCall {W X Y : World} (h2 : Below X.heap.size X Y) (h1 : Below W.heap.size W X) : Below W.heap.size W Y := h1.trans (h2.mono h1.size)
theorem belAlloc {W X : World} (o : Obj) (h1 : Below W.heap.size W X) : Below W.heap.size W (X.alloc o) := h1.alloc h1.size _
theorem Cl.new0 (w : World) (cs : Array Value) (t : TypeId) : Cl (w.alloc (.cells cs t)) w.heap.size cs t := Cl.new w cs t
theorem Cl.new1 (w : World) (cs : Array Value) (t : TypeId) (o : Obj) : Cl ((w.alloc o).alloc (.cells cs t)) (w.heap.size + 1) cs t := by
  have := Cl.new (w.alloc o) cs t
  rwa [show (w.alloc o).heap.size = w.heap.size + 1 by simp] at this
theorem Cl.new2 (w : World) (cs : Array Value) (t : TypeId) (o o' : Obj) : Cl (((w.alloc o).alloc o').alloc (.cells cs t)) (w.heap.size + 2) cs t := by
  have := Cl.new ((w.alloc o).alloc o') cs t
  rwa [show ((w.alloc o).alloc o').heap.size = w.heap.size + 2 by simp] at this
theorem Cl.dr {w : World} {q : Nat} {cs : Array Value} {t : TypeId} (h : Cl w q cs t) : Cl w.drew q cs t := h
theorem Cl.set {w : World} {q : Nat} {cs : Array Value} {t : TypeId} (h : Cl w q cs t) (i : Nat) (v : Value) : Cl (w.setCell ⟨q, i, none⟩ v) q (cs.setIfInBounds i v) t := by
  unfold Cl at h ⊢; simp [World.setCell, Array.getElem?_modify, h]
theorem Cl.four {w : World} {q : Nat} {t : TypeId} {a b c d : Value} (h : Cl w q #[a, b, c, d] t) : w.cell? ⟨q, 0, none⟩ = some a ∧ w.cell? ⟨q, 1, none⟩ = some b ∧ w.cell? ⟨q, 2, none⟩ = some c ∧ w.cell? ⟨q, 3, none⟩ = some d := ⟨h.cell 0, h.cell 1, h.cell 2, h.cell 3⟩

theorem Cl.thaw {w : World} {q : Nat} {t : TypeId} {cs : Array Value} (h : Cl w q cs t) : w.frozen? ⟨q, 0, none⟩ = false ∧ w.frozen? ⟨q, 1, none⟩ = false ∧ w.frozen? ⟨q, 2, none⟩ = false ∧ w.frozen? ⟨q, 3, none⟩ = false := by
  unfold Cl at h
  simp [World.frozen?, h]

/-- What was there ahead of block r is as it was, and block r can be written: four cells. -/
def RB (W : World) (r : Nat) (t : TypeId) (X : World) : Prop := Below r W X ∧ ∃ a b c d, Cl X r #[a, b, c, d] t
theorem RB.lt {W X : World} {r : Nat} {t : TypeId} (h : RB W r t X) : r + 1 ≤ X.heap.size := by
  obtain ⟨_, a, b, c, d, k⟩ := h
  exact k.lt
theorem RB.alloc {W X : World} {r : Nat} {t : TypeId} (h : RB W r t X) (o : Obj) : RB W r t (X.alloc o) := by
  have := h.lt
  obtain ⟨h1, a, b, c, d, k⟩ := h
  exact ⟨h1.alloc (by omega) _, a, b, c, d, k.alloc _⟩
theorem RB.call {W X Y : World} {r : Nat} {t : TypeId} (h : RB W r t X) (hb : Below X.heap.size X Y) : RB W r t Y := by
  have := h.lt
  obtain ⟨h1, a, b, c, d, k⟩ := h
  exact ⟨h1.trans (hb.mono (by omega)), a, b, c, d, k.on hb⟩
theorem RB.drew {W X : World} {r : Nat} {t : TypeId} (h : RB W r t X) : RB W r t X.drew := ⟨h.1.drew, h.2⟩
theorem RB.set {W X : World} {r i : Nat} {t : TypeId} (h : RB W r t X) (v : Value) : RB W r t (X.setCell ⟨r, i, none⟩ v) := by
  obtain ⟨h1, a, b, c, d, k⟩ := h
  refine ⟨h1.setCell (p := ⟨r, i, none⟩) (Nat.le_refl _) _, ?_⟩
  have k2 := k.set i v
  match i with
  | 0 => exact ⟨_, _, _, _, k2⟩
  | 1 => exact ⟨_, _, _, _, k2⟩
  | 2 => exact ⟨_, _, _, _, k2⟩
  | 3 => exact ⟨_, _, _, _, k2⟩
  | i + 4 => exact ⟨a, b, c, d, by simpa using k2⟩
theorem RB.four {W X : World} {r : Nat} {t : TypeId} (h : RB W r t X) : (∃ a, X.cell? ⟨r, 0, none⟩ = some a) ∧ (∃ a, X.cell? ⟨r, 1, none⟩ = some a) ∧ (∃ a, X.cell? ⟨r, 2, none⟩ = some a) ∧ (∃ a, X.cell? ⟨r, 3, none⟩ = some a) ∧ X.frozen? ⟨r, 0, none⟩ = false ∧ X.frozen? ⟨r, 1, none⟩ = false ∧ X.frozen? ⟨r, 2, none⟩ = false ∧ X.frozen? ⟨r, 3, none⟩ = false := by
  obtain ⟨_, a, b, c, d, k⟩ := h
  refine ⟨⟨a, k.cell 0⟩, ⟨b, k.cell 1⟩, ⟨c, k.cell 2⟩, ⟨d, k.cell 3⟩, ?_⟩
  unfold Cl at k
  simp [World.frozen?, k]
theorem rbOf {A B C D : Prop} {W X : World} {r : Nat} {t : TypeId} (h : A ∧ B ∧ C ∧ D ∧ Hid (RB W r t X)) : RB W r t X := h.2.2.2.2.out
/-- The block, written. -/
def set4 (w : World) (q : Nat) (a b c d : Value) : World := (((w.setCell ⟨q, 0, none⟩ a).setCell ⟨q, 1, none⟩ b).setCell ⟨q, 2, none⟩ c).setCell ⟨q, 3, none⟩ d
theorem Cl.set4 {w : World} {q : Nat} {t : TypeId} {a b c d : Value} (h : Cl w q #[a, b, c, d] t) (a' b' c' d' : Value) : Cl (set4 w q a' b' c' d') q #[a', b', c', d'] t := (((h.set 0 a').set 1 b').set 2 c').set 3 d'

/-- What a function answers that has one struct as its result. -/
theorem results_cell {fn : Func} {p : Tmp} {ty : TypeId} (h : fn.results = #[.cell p ty]) (tmps : Array Value) (P : Program) (w : World) :
    (results fn tmps).run P w = ((asAddr (tmps.getD p undef)).run P w).andThen fun a w₁ => (loadVar ty a).run P w₁ := by
  simp only [results, h]
  simp [Sem.run_bind, Result.andThen]

theorem ownSet4 {base q : Nat} {w : World} {e : TypeId} {k : Nat} {v a b c d : Value} {n : Nat} {xs : List Value} (h : w.ownsRow base e k v n xs) (hq : q < base) : (set4 w q a b c d).ownsRow base e k v n xs :=
  ownsRow_setCell_below (ownsRow_setCell_below (ownsRow_setCell_below (ownsRow_setCell_below h (a := ⟨q, 0, none⟩) hq a) (a := ⟨q, 1, none⟩) hq b) (a := ⟨q, 2, none⟩) hq c) (a := ⟨q, 3, none⟩) hq d
theorem belSet4 {B q : Nat} {w0 w : World} {a b c d : Value} (h : Below B w0 w) (hq : B ≤ q) : Below B w0 (set4 w q a b c d) :=
  (((h.setCell (p := ⟨q, 0, none⟩) hq a).setCell (p := ⟨q, 1, none⟩) hq b).setCell (p := ⟨q, 2, none⟩) hq c).setCell (p := ⟨q, 3, none⟩) hq d

end Go.Proofs.Ytmamnlphhiaeoaa

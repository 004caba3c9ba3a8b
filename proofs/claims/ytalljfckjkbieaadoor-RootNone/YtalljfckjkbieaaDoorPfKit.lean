/-
  More of things that lie apart: two things as one, a block that nobody writes, rows of texts, of truth values and of kinds that were just made.
-/
import Derived.Test.YtalljfckjkbieaaDoorUp2
import Derived.Deep.RegionHeld3
namespace Go.Proofs.YtalljfckjkbieaaDoor
open Go.RowKit
set_option linter.unusedVariables false

/-- Two things as one. -/
def Both (r s : Res) : Res := fun w X => ∃ X1 X2, r w X1 ∧ s w X2 ∧ (∀ k, X1 k → ¬ X2 k) ∧ ∀ k, X k ↔ X1 k ∨ X2 k
theorem good_both {r s : Res} (gr : Good r) (gs : Good s) : Good (Both r s) :=
  ⟨fun w w' X ⟨X1, X2, h1, h2, hd, hx⟩ hk hs => ⟨X1, X2, gr.kept w w' X1 h1 (fun k h => hk k ((hx k).2 (.inl h))) hs, gs.kept w w' X2 h2 (fun k h => hk k ((hx k).2 (.inr h))) hs, hd, hx⟩,
   fun w X ⟨X1, X2, h1, h2, _, hx⟩ k hk => ((hx k).1 hk).elim (gr.lt w X1 h1 k) (gs.lt w X2 h2 k)⟩
theorem Hp.join {w : World} {r s : Res} {l : List Res} {Y : Nat → Prop} (h : Hp w (r :: s :: l) Y) : Hp w (Both r s :: l) Y := by
  obtain ⟨gr, X1, Z1, hr, ⟨gs, X2, Z2, hs, hl, hd2, hy2⟩, hd1, hy1⟩ := h
  refine ⟨good_both gr gs, fun k => X1 k ∨ X2 k, Z2, ⟨X1, X2, hr, hs, fun k h1 h2 => hd1 k h1 ((hy2 k).2 (.inl h2)), fun _ => Iff.rfl⟩, hl, fun k hk hz => ?_, fun k => ?_⟩
  · rcases hk with h1 | h1
    · exact hd1 k h1 ((hy2 k).2 (.inr hz))
    · exact hd2 k h1 hz
  · rw [hy1 k, hy2 k, or_assoc]
theorem Hp.part {w : World} {r s : Res} {l : List Res} {Y : Nat → Prop} (gr : Good r) (gs : Good s) (h : Hp w (Both r s :: l) Y) : Hp w (r :: s :: l) Y := by
  obtain ⟨_, X, Z, ⟨X1, X2, hr, hs, hd, hx⟩, hl, hdz, hy⟩ := h
  refine ⟨gr, X1, fun k => X2 k ∨ Z k, hr, ⟨gs, X2, Z, hs, hl, fun k h1 h2 => hdz k ((hx k).2 (.inr h1)) h2, fun _ => Iff.rfl⟩, fun k h1 h2 => ?_, fun k => ?_⟩
  · rcases h2 with h2 | h2
    · exact hd k h1 h2
    · exact hdz k ((hx k).2 (.inl h1)) h2
  · rw [hy k, hx k, or_assoc]
theorem Sep.join {B : Nat} {w0 w : World} {r s : Res} {l : List Res} (h : Sep B w0 w (r :: s :: l)) : Sep B w0 w (Both r s :: l) := h.map fun _ => Hp.join

/-- A block that nobody writes. -/
def Blk (q : Nat) (o : Obj) : Res := fun w X => w.heap[q]? = some o ∧ ∀ k, X k ↔ k = q
theorem good_blk (q : Nat) (o : Obj) : Good (Blk q o) :=
  ⟨fun w w' X h hk _ => ⟨(hk q ((h.2 q).2 rfl)).trans h.1, h.2⟩, fun w X h k hk => by rw [(h.2 k).1 hk]; exact (Array.getElem?_eq_some_iff.1 h.1).1⟩
theorem Sep.addBlk {B : Nat} {w0 w : World} {l : List Res} (h : Sep B w0 w l) (o : Obj) : Sep B w0 (w.alloc o) (Blk w.heap.size o :: l) :=
  h.add ((Below.refl _ _).alloc (Nat.le_refl _) _) (good_blk _ _) (X := fun k => k = w.heap.size) ⟨heap_alloc_new w o, fun _ => Iff.rfl⟩ (fun k hk => Nat.le_of_eq hk.symm)
theorem Sep.blk {B : Nat} {w0 w : World} {l : List Res} {q : Nat} {o : Obj} (h : Sep B w0 w (Blk q o :: l)) : w.heap[q]? = some o := by
  obtain ⟨_, _, Y, ⟨_, X, _, ha, _⟩, _⟩ := h; exact ha.1
theorem Sep.drop {B : Nat} {w0 w : World} {l : List Res} {a : Res} (h : Sep B w0 w (a :: l)) : Sep B w0 w l := by
  obtain ⟨hB, hb, Y, ⟨_, X, Z, _, hl, _, hy⟩, hY⟩ := h
  exact ⟨hB, hb, Z, hl, fun k hk => hY k ((hy k).2 (.inr hk))⟩
theorem quietly {P : Program} {f : Nat} {args : Array Value} {v : Value} {W : World} (h : ∀ m, Calls P f args (W.drewN m) fun e w' => e = .returned v ∧ W.drewN m = w') (m : Nat) : Calls P f args (W.drewN m) fun e w'' => e = .returned v ∧ ∃ k, w'' = W.drewN k :=
  (h m).mono fun _ _ h => ⟨h.1, m, h.2.symm⟩
theorem Dk.put_len (d : Dk) (i : Int) (s : ByteArray) {t : Nat} (h : d.pend.length ≤ t) : (d.put i s).2.pend.length ≤ t + 1 := Nat.le_trans (d.put_sure i s).2 (by omega)

/-- A row that was just made. -/
theorem Sep.addRow {B : Nat} {w0 w : World} {l : List Res} (h : Sep B w0 w l) (e : TypeId) (cs : List Value) (n : Nat) (hn : cs.length = n) (hm : n ≤ 1000) : Sep B w0 (w.alloc (.cells cs.toArray e)) (RowR e (.slice (some ⟨w.heap.size, 0, none⟩) n n) cs :: l) := by
  subst hn
  exact h.add ((Below.refl _ _).alloc (Nat.le_refl _) _) (good_row _ _ _) (X := fun k => k = w.heap.size) ⟨World.ownsRow_lit w _ cs.length (Nat.zero_le _) (by unfold maxLen; omega) (by simp), fun k => by simp [Value.ownBlock, eq_comm]⟩ (fun k hk => Nat.le_of_eq hk.symm)

def bAt (l : List Bool) (i : Nat) : Bool := l.getD i false
theorem Sep.bool_at {B : Nat} {w0 w : World} {r c : Nat} {l : List Res} {tl : List Bool} {n i : Nat} (h : Sep B w0 w (RowR 4 (.slice (some ⟨r, 0, none⟩) n c) (tl.map .bool) :: l)) (hi : i < tl.length) : w.cell? ⟨r, i, none⟩ = some (.bool (bAt tl i)) ∧ w.frozen? ⟨r, i, none⟩ = false := by
  obtain ⟨r', c', e, _, _, hc, hf⟩ := h.cell (j := i) (by simpa using hi)
  cases e
  rw [hc]
  exact ⟨by simp [bAt, List.getD_eq_getElem?_getD, hi], hf⟩
theorem Sep.bool_set {B : Nat} {w0 w : World} {r c : Nat} {l : List Res} {tl : List Bool} {n i : Nat} {s : Bool} (h : Sep B w0 w (RowR 4 (.slice (some ⟨r, 0, none⟩) n c) (tl.map .bool) :: l)) (hi : i < tl.length) (hn : tl.length = n) : Sep B w0 (w.setCell ⟨r, i, none⟩ (.bool s)) (RowR 4 (.slice (some ⟨r, 0, none⟩) n c) ((tl.set i s).map .bool) :: l) := by
  subst hn
  have e : tl.length = (tl.map Value.bool).length := by simp
  rw [e] at h ⊢
  rw [List.map_set]
  exact h.store i (by simpa using hi) _
theorem bAt_set (tl : List Bool) {i j : Nat} (hi : i < tl.length) : bAt (tl.set i true) j = if i = j then true else bAt tl j := by
  unfold bAt
  rw [List.getD_eq_getElem?_getD, List.getElem?_set]
  by_cases h : i = j
  · subst h; simp [hi]
  · simp [h, List.getD_eq_getElem?_getD]

/-- Kinds. -/
def kdV (k : UInt8) : Value := .int .u8 (k.toNat : Int)
def kAt (l : List UInt8) (i : Nat) : UInt8 := l.getD i 0
theorem kAt_set (tl : List UInt8) {i j : Nat} (hi : i < tl.length) (s : UInt8) : kAt (tl.set i s) j = if i = j then s else kAt tl j := by
  unfold kAt
  rw [List.getD_eq_getElem?_getD, List.getElem?_set]
  by_cases h : i = j
  · subst h; simp [hi]
  · simp [h, List.getD_eq_getElem?_getD]

end Go.Proofs.YtalljfckjkbieaaDoor

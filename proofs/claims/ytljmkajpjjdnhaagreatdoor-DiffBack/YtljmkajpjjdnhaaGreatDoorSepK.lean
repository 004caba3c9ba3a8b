/-
  Things in memory that lie apart (the part of it that speaks of no program); a range over a function, round by round.
-/
import Derived.Test.YtljmkajpjjdnhaaGreatDoorProg
import Derived.WalkKit
import Derived.WalkSpells
import Derived.WalkLawsBesides
import Derived.Laws.OwnMore
import Derived.Laws.LoneSync
import Derived.ChangeMaps4
import Derived.Maps.Keyed
import Derived.RangeFuncNested
import Derived.RangeFuncBound
import Derived.RangeFuncCalls
import Derived.RangeFuncLeaves
import Derived.RangeFuncWrites
import Derived.RangeFuncBox
import Derived.Shelf.Abstract
import Derived.Shelf.RegionOpen
import Derived.OwnWalkIn
import Derived.TacticsInMore
import Derived.LoopNIn
import Derived.LoopIn
import Derived.Sort.LoopGhostIn
namespace Go.Proofs.YtljmkajpjjdnhaaGreatDoor
open Go.RowKit
open Go.ChangeMaps (setBlock)
set_option linter.unusedVariables false

/-- All but the blocks of X is as it was. -/
structure Turn (X : Nat → Prop) (w w' : World) : Prop where
  os : w'.os = w.os
  tape : w'.tape = w.tape
  output : w'.output = w.output
  size : w.heap.size ≤ w'.heap.size
  block : ∀ k, k < w.heap.size → ¬ X k → w'.heap[k]? = w.heap[k]?

theorem Turn.refl (X : Nat → Prop) (w : World) : Turn X w w := ⟨rfl, rfl, rfl, Nat.le_refl _, fun _ _ _ => rfl⟩
theorem Turn.trans {X Y : Nat → Prop} {u v w : World} (h : Turn X u v) (k : Turn Y v w) (hY : ∀ k, Y k → X k ∨ u.heap.size ≤ k) : Turn X u w :=
  ⟨k.os.trans h.os, k.tape.trans h.tape, k.output.trans h.output, Nat.le_trans h.size k.size, fun i hi hx => (k.block i (Nat.lt_of_lt_of_le hi h.size) (fun hy => (hY i hy).elim hx (fun h1 => by omega))).trans (h.block i hi hx)⟩
theorem Turn.drew (X : Nat → Prop) (w : World) : Turn X w w.drew := ⟨rfl, rfl, rfl, Nat.le_refl _, fun _ _ _ => rfl⟩
theorem Turn.alloc (X : Nat → Prop) (w : World) (o : Obj) : Turn X w (w.alloc o) := ⟨rfl, rfl, rfl, by simp, fun k hk _ => Below.heap_alloc _ _ _ hk⟩
theorem Turn.setCell {X : Nat → Prop} (w : World) {b o : Nat} (hb : X b) (v : Value) : Turn X w (w.setCell ⟨b, o, none⟩ v) :=
  ⟨rfl, rfl, rfl, by simp [World.setCell], fun k _ hx => Below.heap_setCell _ _ _ _ (fun e => hx (by rw [e]; exact hb))⟩
theorem setBlock_other (w : World) {m k : Nat} (h : k ≠ m) (o : Obj) : (setBlock w m o).heap[k]? = w.heap[k]? := by simp [setBlock, Ne.symm h]
theorem Turn.setBlock {X : Nat → Prop} (w : World) {b : Nat} (hb : X b) (o : Obj) : Turn X w (setBlock w b o) :=
  ⟨rfl, rfl, rfl, by simp [Go.ChangeMaps.setBlock], fun k _ hx => setBlock_other w (fun e => hx (by rw [e]; exact hb)) o⟩
theorem Turn.grown {X : Nat → Prop} {w w' : World} {row : Option Nat} (h : w.grownBy w' row) (hX : ∀ k, row = some k → X k) : Turn X w w' :=
  ⟨h.os, h.tape, h.output, h.size, fun k hk hx => h.block k hk (fun e => hx (hX k e.symm))⟩
theorem Turn.of_below {X : Nat → Prop} {w w' : World} (h : Below w.heap.size w w') : Turn X w w' := ⟨h.os, h.tape, h.output, h.size, fun k hk _ => h.block k hk⟩
theorem Turn.below {X : Nat → Prop} {B : Nat} {a w w' : World} (hb : Below B a w) (h : Turn X w w') (hB : B ≤ w.heap.size) (hX : ∀ k, X k → B ≤ k) : Below B a w' :=
  hb.trans ⟨h.os, h.tape, h.output, h.size, fun k hk => h.block k (by omega) (fun hx => by have := hX k hx; omega)⟩

theorem ownsRow_kept' {w w' : World} {base : Nat} {e : TypeId} {size : Nat} {v : Value} {n : Nat} {xs : List Value} (h : w.ownsRow base e size v n xs) (hk : ∀ k, v.ownBlock = some k → w'.heap[k]? = w.heap[k]?) : w'.ownsRow base e size v n xs := by
  refine ⟨h.1, ?_⟩
  rcases h.2 with hn | ⟨g, cap, cur, rfl, hb, hg, rest⟩
  · exact .inl hn
  · exact .inr ⟨g, cap, cur, rfl, hb, (hk g rfl).trans hg, rest⟩

/-- A thing in memory, with the blocks that it lies in. -/
abbrev Res := World → (Nat → Prop) → Prop
structure Good (r : Res) : Prop where
  kept : ∀ w w' X, r w X → (∀ k, X k → w'.heap[k]? = w.heap[k]?) → w.heap.size ≤ w'.heap.size → r w' X
  lt : ∀ w X, r w X → ∀ k, X k → k < w.heap.size

def Hp (w : World) : List Res → (Nat → Prop) → Prop
  | [], Y => ∀ k, ¬ Y k
  | r :: l, Y => Good r ∧ ∃ X Z, r w X ∧ Hp w l Z ∧ (∀ k, X k → ¬ Z k) ∧ ∀ k, Y k ↔ X k ∨ Z k

/-- These things lie apart, each in blocks from B on; below B all is as in w0. -/
def Sep (B : Nat) (w0 w : World) (l : List Res) : Prop := B ≤ w.heap.size ∧ Below B w0 w ∧ ∃ Y, Hp w l Y ∧ ∀ k, Y k → B ≤ k

theorem Hp.lt {w : World} : ∀ {l : List Res} {Y : Nat → Prop}, Hp w l Y → ∀ k, Y k → k < w.heap.size
  | [], _, h, k, hk => absurd hk (h k)
  | r :: l, _, ⟨g, X, Z, hr, hl, _, hy⟩, k, hk => by
    rcases (hy k).1 hk with h | h
    · exact g.lt w X hr k h
    · exact hl.lt k h
theorem Hp.kept {w w' : World} (hs : w.heap.size ≤ w'.heap.size) : ∀ {l : List Res} {Y : Nat → Prop}, Hp w l Y → (∀ k, Y k → w'.heap[k]? = w.heap[k]?) → Hp w' l Y
  | [], _, h, _ => h
  | r :: l, _, ⟨g, X, Z, hr, hl, hd, hy⟩, hk => ⟨g, X, Z, g.kept w w' X hr (fun k h => hk k ((hy k).2 (.inl h))) hs, hl.kept hs (fun k h => hk k ((hy k).2 (.inr h))), hd, hy⟩
theorem Hp.swap {w : World} {a b : Res} {l : List Res} {Y : Nat → Prop} (h : Hp w (a :: b :: l) Y) : Hp w (b :: a :: l) Y := by
  obtain ⟨ga, X, Z, ha, ⟨gb, X2, Z2, hb, hl, hd2, hy2⟩, hd, hy⟩ := h
  refine ⟨gb, X2, fun k => X k ∨ Z2 k, hb, ⟨ga, X, Z2, ha, hl, fun k hk h2 => hd k hk ((hy2 k).2 (.inr h2)), fun k => Iff.rfl⟩, fun k hk h2 => ?_, fun k => ?_⟩
  · rcases h2 with h2 | h2
    · exact hd k h2 ((hy2 k).2 (.inl hk))
    · exact hd2 k hk h2
  · rw [hy k, hy2 k]
    constructor
    · rintro (h | h | h)
      · exact .inr (.inl h)
      · exact .inl h
      · exact .inr (.inr h)
    · rintro (h | h | h)
      · exact .inr (.inl h)
      · exact .inl h
      · exact .inr (.inr h)
theorem Hp.under {w : World} {a : Res} {l l' : List Res} {Y : Nat → Prop} (h : Hp w (a :: l) Y) (f : ∀ Z, Hp w l Z → Hp w l' Z) : Hp w (a :: l') Y := by
  obtain ⟨ga, X, Z, ha, hl, hd, hy⟩ := h
  exact ⟨ga, X, Z, ha, f Z hl, hd, hy⟩

section
variable {B : Nat} {w0 w w' : World} {a b c e : Res} {l : List Res}
theorem Sep.map {l l' : List Res} (h : Sep B w0 w l) (f : ∀ Z, Hp w l Z → Hp w l' Z) : Sep B w0 w l' := by
  obtain ⟨hB, hb, Y, hl, hY⟩ := h
  exact ⟨hB, hb, Y, f Y hl, hY⟩
theorem Sep.up1 (h : Sep B w0 w (a :: b :: l)) : Sep B w0 w (b :: a :: l) := h.map fun _ => Hp.swap
theorem Sep.up2 (h : Sep B w0 w (a :: b :: c :: l)) : Sep B w0 w (c :: a :: b :: l) := (h.map fun _ h => Hp.under h fun _ => Hp.swap).up1
theorem Sep.up3 (h : Sep B w0 w (a :: b :: c :: e :: l)) : Sep B w0 w (e :: a :: b :: c :: l) := (h.map fun _ h => Hp.under h fun _ h => Hp.under h fun _ => Hp.swap).up2
theorem Sep.up4 {f : Res} (h : Sep B w0 w (a :: b :: c :: e :: f :: l)) : Sep B w0 w (f :: a :: b :: c :: e :: l) := (h.map fun _ h => Hp.under h fun _ h => Hp.under h fun _ h => Hp.under h fun _ => Hp.swap).up3
theorem Sep.dn2 (h : Sep B w0 w (c :: a :: b :: l)) : Sep B w0 w (a :: b :: c :: l) := h.up1.map fun _ h => Hp.under h fun _ => Hp.swap
theorem Sep.dn3 (h : Sep B w0 w (e :: a :: b :: c :: l)) : Sep B w0 w (a :: b :: c :: e :: l) := h.dn2.map fun _ h => Hp.under h fun _ h => Hp.under h fun _ => Hp.swap
theorem Sep.dn4 {f : Res} (h : Sep B w0 w (f :: a :: b :: c :: e :: l)) : Sep B w0 w (a :: b :: c :: e :: f :: l) := h.dn3.map fun _ h => Hp.under h fun _ h => Hp.under h fun _ h => Hp.under h fun _ => Hp.swap
theorem Sep.size (h : Sep B w0 w l) : B ≤ w.heap.size := h.1
theorem Sep.bel (h : Sep B w0 w l) : Below B w0 w := h.2.1

/-- New blocks alone. -/
theorem Sep.below {l : List Res} (h : Sep B w0 w l) (hb : Below w.heap.size w w') : Sep B w0 w' l := by
  obtain ⟨hB, hb0, Y, hl, hY⟩ := h
  exact ⟨Nat.le_trans hB hb.size, hb0.trans (hb.mono hB), Y, hl.kept hb.size (fun k hk => hb.block k (hl.lt k hk)), hY⟩
theorem Sep.alloc {l : List Res} (h : Sep B w0 w l) (o : Obj) : Sep B w0 (w.alloc o) l := h.below ((Below.refl _ _).alloc (Nat.le_refl _) o)
theorem Sep.drew {l : List Res} (h : Sep B w0 w l) : Sep B w0 w.drew l := h.below (Below.refl _ _).drew
theorem Sep.nil (hB : B ≤ w.heap.size) (hb : Below B w0 w) : Sep B w0 w [] := ⟨hB, hb, fun _ => False, fun _ h => h, fun _ h => h.elim⟩

/-- The first thing has turned, in its own blocks and new ones. -/
theorem Sep.step {a' : Res} (h : Sep B w0 w (a :: l)) (g' : Good a') (f : ∀ X, a w X → ∃ X', a' w' X' ∧ Turn X w w' ∧ ∀ k, X' k → X k ∨ w.heap.size ≤ k) : Sep B w0 w' (a' :: l) := by
  obtain ⟨hB, hb, Y, ⟨ga, X, Z, ha, hl, hd, hy⟩, hY⟩ := h
  obtain ⟨X', ha', ht, hx⟩ := f X ha
  have hlt := hl.lt
  refine ⟨Nat.le_trans hB ht.size, ht.below hb hB (fun k hk => hY k ((hy k).2 (.inl hk))), fun k => X' k ∨ Z k, ⟨g', X', Z, ha', hl.kept ht.size (fun k hk => ht.block k (hlt k hk) (fun hx => hd k hx hk)), fun k hk hz => ?_, fun k => Iff.rfl⟩, fun k hk => ?_⟩
  · rcases hx k hk with h1 | h1
    · exact hd k h1 hz
    · have := hlt k hz; omega
  · rcases hk with h1 | h1
    · rcases hx k h1 with h2 | h2
      · exact hY k ((hy k).2 (.inl h2))
      · omega
    · exact hY k ((hy k).2 (.inr h1))
/-- A new thing in new blocks. -/
theorem Sep.add {a' : Res} (h : Sep B w0 w l) (hb : Below w.heap.size w w') (g' : Good a') {X : Nat → Prop} (ha : a' w' X) (hX : ∀ k, X k → w.heap.size ≤ k) : Sep B w0 w' (a' :: l) := by
  have h' := h.below hb
  obtain ⟨hB, _, Y, hl, hY⟩ := h
  have hlt := hl.lt
  obtain ⟨hB', hb', _⟩ := h'
  refine ⟨hB', hb', fun k => X k ∨ Y k, ⟨g', X, Y, ha, hl.kept hb.size (fun k hk => hb.block k (hlt k hk)), fun k hk hz => ?_, fun k => Iff.rfl⟩, fun k hk => ?_⟩
  · have := hX k hk; have := hlt k hz; omega
  · rcases hk with h1 | h1
    · have := hX k h1; omega
    · exact hY k h1
end

/-- Two things as one. -/
def Both (r s : Res) : Res := fun w X => ∃ X1 X2, r w X1 ∧ s w X2 ∧ (∀ k, X1 k → ¬ X2 k) ∧ ∀ k, X k ↔ X1 k ∨ X2 k
theorem good_both {r s : Res} (gr : Good r) (gs : Good s) : Good (Both r s) :=
  ⟨fun w w' X ⟨X1, X2, h1, h2, hd, hx⟩ hk hs => ⟨X1, X2, gr.kept w w' X1 h1 (fun k h => hk k ((hx k).2 (.inl h))) hs, gs.kept w w' X2 h2 (fun k h => hk k ((hx k).2 (.inr h))) hs, hd, hx⟩,
   fun w X ⟨X1, X2, h1, h2, _, hx⟩ k hk => ((hx k).1 hk).elim (gr.lt w X1 h1 k) (gs.lt w X2 h2 k)⟩
theorem Hp.join {w : World} {r s : Res} {l : List Res} {Y : Nat → Prop} (h : Hp w (r :: s :: l) Y) : Hp w (Both r s :: l) Y := by
  obtain ⟨gr, X1, Z1, hr, ⟨gs, X2, Z2, hs, hl, hd2, hy2⟩, hd1, hy1⟩ := h
  refine ⟨good_both gr gs, fun k => X1 k ∨ X2 k, Z2, ⟨X1, X2, hr, hs, fun k h1 h2 => hd1 k h1 ((hy2 k).2 (.inl h2)), fun _ => Iff.rfl⟩, hl, fun k hk hz => ?_, fun k => ?_⟩
  · rcases hk with h1 | h1
    · exact hd1 k h1 ((hy2 k).2 (.inr hz))
    · exact hd2 k h1 hz
  · rw [hy1 k, hy2 k, or_assoc]
theorem Hp.part {w : World} {r s : Res} {l : List Res} {Y : Nat → Prop} (gr : Good r) (gs : Good s) (h : Hp w (Both r s :: l) Y) : Hp w (r :: s :: l) Y := by
  obtain ⟨_, X, Z, ⟨X1, X2, hr, hs, hd, hx⟩, hl, hdz, hy⟩ := h
  refine ⟨gr, X1, fun k => X2 k ∨ Z k, hr, ⟨gs, X2, Z, hs, hl, fun k h1 h2 => hdz k ((hx k).2 (.inr h1)) h2, fun _ => Iff.rfl⟩, fun k h1 h2 => ?_, fun k => ?_⟩
  · rcases h2 with h2 | h2
    · exact hd k h1 h2
    · exact hdz k ((hx k).2 (.inl h1)) h2
  · rw [hy k, hx k, or_assoc]
theorem Sep.join {B : Nat} {w0 w : World} {r s : Res} {l : List Res} (h : Sep B w0 w (r :: s :: l)) : Sep B w0 w (Both r s :: l) := h.map fun _ => Hp.join

/-- A block that nobody writes. -/
def Blk (q : Nat) (o : Obj) : Res := fun w X => w.heap[q]? = some o ∧ ∀ k, X k ↔ k = q
theorem good_blk (q : Nat) (o : Obj) : Good (Blk q o) :=
  ⟨fun w w' X h hk _ => ⟨(hk q ((h.2 q).2 rfl)).trans h.1, h.2⟩, fun w X h k hk => by rw [(h.2 k).1 hk]; exact (Array.getElem?_eq_some_iff.1 h.1).1⟩
theorem Sep.addBlk {B : Nat} {w0 w : World} {l : List Res} (h : Sep B w0 w l) (o : Obj) : Sep B w0 (w.alloc o) (Blk w.heap.size o :: l) :=
  h.add ((Below.refl _ _).alloc (Nat.le_refl _) _) (good_blk _ _) (X := fun k => k = w.heap.size) ⟨heap_alloc_new w o, fun _ => Iff.rfl⟩ (fun k hk => Nat.le_of_eq hk.symm)
theorem Sep.blk {B : Nat} {w0 w : World} {l : List Res} {q : Nat} {o : Obj} (h : Sep B w0 w (Blk q o :: l)) : w.heap[q]? = some o := by
  obtain ⟨_, _, Y, ⟨_, X, _, ha, _⟩, _⟩ := h; exact ha.1
theorem Sep.drop {B : Nat} {w0 w : World} {l : List Res} {a : Res} (h : Sep B w0 w (a :: l)) : Sep B w0 w l := by
  obtain ⟨hB, hb, Y, ⟨_, X, Z, _, hl, _, hy⟩, hY⟩ := h
  exact ⟨hB, hb, Z, hl, fun k hk => hY k ((hy k).2 (.inr hk))⟩
section
variable {w w' : World} {q i k : Nat} {cs : Array Value} {t : TypeId}
/-- Block q holds these cells. -/
def Cl (w : World) (q : Nat) (cs : Array Value) (t : TypeId) : Prop := w.heap[q]? = some (.cells cs t (0, 0))
theorem Cl.lt (h : Cl w q cs t) : q < w.heap.size := (Array.getElem?_eq_some_iff.1 h).1
theorem Cl.cell (h : Cl w q cs t) (i : Nat) : w.cell? ⟨q, i, none⟩ = cs[i]? := by unfold Cl at h; simp [World.cell?, h]
theorem Cl.frozen (h : Cl w q cs t) (i : Nat) : w.frozen? ⟨q, i, none⟩ = false := by unfold Cl at h; simp [World.frozen?, h]
theorem Cl.set (h : Cl w q cs t) (i : Nat) (v : Value) : Cl (w.setCell ⟨q, i, none⟩ v) q (cs.setIfInBounds i v) t := by
  unfold Cl at h ⊢; simp [World.setCell, Array.getElem?_modify, h]
theorem Cl.new (w : World) (cs : Array Value) (t : TypeId) : Cl (w.alloc (.cells cs t)) w.heap.size cs t := by
  show (w.heap.push _)[w.heap.size]? = _; simp
theorem Cl.below {B : Nat} (h : Cl w q cs t) (b : Below B w w') (hq : q < B) : Cl w' q cs t := (b.block q hq).trans h
theorem Cl.on (h : Cl w q cs t) (b : Below w.heap.size w w') : Cl w' q cs t := h.below b h.lt
theorem Cl.alloc (h : Cl w q cs t) (o : Obj) : Cl (w.alloc o) q cs t := h.on ((Below.refl _ _).alloc (Nat.le_refl _) _)
theorem Cl.two {a b : Value} (h : Cl w q #[a, b] t) : w.cell? ⟨q, 0, none⟩ = some a ∧ w.cell? ⟨q, 1, none⟩ = some b := ⟨h.cell 0, h.cell 1⟩
theorem Cl.set2 {x y : Value} (h : Cl w q #[x, y] t) (a b : Value) : Cl ((w.setCell ⟨q, 0, none⟩ a).setCell ⟨q, 1, none⟩ b) q #[a, b] t := (h.set 0 a).set 1 b
end
/-- A thing of a list comes to the front, or goes back to its place. -/
theorem Hp.pk {w : World} {a : Res} : ∀ (l1 : List Res) {l2 : List Res} {Y : Nat → Prop}, Hp w (l1 ++ a :: l2) Y → Hp w (a :: (l1 ++ l2)) Y
  | [], _, _, h => h
  | b :: l1, _, _, h => Hp.swap (Hp.under h fun _ h' => Hp.pk l1 h')
theorem Hp.pb {w : World} {a : Res} : ∀ (l1 : List Res) {l2 : List Res} {Y : Nat → Prop}, Hp w (a :: (l1 ++ l2)) Y → Hp w (l1 ++ a :: l2) Y
  | [], _, _, h => h
  | b :: l1, _, _, h => Hp.under (Hp.swap h) fun _ h' => Hp.pb l1 h'
theorem Sep.pk {B : Nat} {w0 w : World} {a : Res} (l1 : List Res) {l2 : List Res} (h : Sep B w0 w (l1 ++ a :: l2)) : Sep B w0 w (a :: (l1 ++ l2)) := h.map fun _ => Hp.pk l1
theorem Sep.pb {B : Nat} {w0 w : World} {a : Res} (l1 : List Res) {l2 : List Res} (h : Sep B w0 w (a :: (l1 ++ l2))) : Sep B w0 w (l1 ++ a :: l2) := h.map fun _ => Hp.pb l1
theorem Hp.perm {w : World} {l l' : List Res} (p : l.Perm l') : ∀ Y, Hp w l Y → Hp w l' Y := by
  induction p with
  | nil => exact fun _ h => h
  | cons a _ ih => exact fun _ h => h.under ih
  | swap a b l => exact fun _ h => h.swap
  | trans _ _ ih1 ih2 => exact fun Y h => ih2 Y (ih1 Y h)
theorem Sep.perm {B : Nat} {w0 w : World} {l l' : List Res} (h : Sep B w0 w l) (p : l.Perm l') : Sep B w0 w l' := h.map (Hp.perm p)
theorem Hp.front {w : World} : ∀ (l1 : List Res) {l2 : List Res} {Y : Nat → Prop}, Hp w (l1 ++ l2) Y → ∃ Y', Hp w l1 Y' ∧ ∀ k, Y' k → Y k
  | [], _, _, _ => ⟨fun _ => False, fun _ h => h, fun _ h => h.elim⟩
  | r :: l1, l2, Y, h => by
    obtain ⟨g, X, Z, hr, hl, hd, hy⟩ := h
    obtain ⟨Y', h1, h2⟩ := Hp.front l1 hl
    exact ⟨fun k => X k ∨ Y' k, ⟨g, X, Y', hr, h1, fun k hk hz => hd k hk (h2 k hz), fun _ => Iff.rfl⟩, fun k hk => (hy k).2 (hk.elim .inl (fun h => .inr (h2 k h)))⟩
theorem Sep.front {B : Nat} {w0 w : World} (l1 : List Res) {l2 : List Res} (h : Sep B w0 w (l1 ++ l2)) : Sep B w0 w l1 := by
  obtain ⟨hB, hb, Y, hl, hY⟩ := h
  obtain ⟨Y', h1, h2⟩ := Hp.front l1 hl
  exact ⟨hB, hb, Y', h1, fun k hk => hY k (h2 k hk)⟩
theorem perm_back {a : Res} {l1 l2 : List Res} : (l1 ++ a :: l2).Perm (a :: (l2 ++ l1)) := List.perm_middle.trans (List.Perm.cons _ List.perm_append_comm)
theorem perm_forth {a : Res} {l1 l2 : List Res} : (a :: (l2 ++ l1)).Perm (l1 ++ a :: l2) := perm_back.symm

/-- A thing with a value of its own. -/
def ExR (F : Value → Res) : Res := fun w X => ∃ v, F v w X
theorem good_ex {F : Value → Res} (h : ∀ v, Good (F v)) : Good (ExR F) :=
  ⟨fun w w' X ⟨v, hv⟩ hk hs => ⟨v, (h v).kept w w' X hv hk hs⟩, fun w X ⟨v, hv⟩ => (h v).lt w X hv⟩
section
variable {B : Nat} {w0 w w' : World} {l : List Res} {F : Value → Res}
theorem Sep.ex (hF : ∀ v, Good (F v)) (h : Sep B w0 w (ExR F :: l)) : ∃ v, Sep B w0 w (F v :: l) := by
  obtain ⟨hB, hb, Y, ⟨_, X, Z, ⟨v, ha⟩, hl, hd, hy⟩, hY⟩ := h
  exact ⟨v, hB, hb, Y, ⟨hF v, X, Z, ha, hl, hd, hy⟩, hY⟩
theorem Sep.toEx (hF : ∀ v, Good (F v)) {v : Value} (h : Sep B w0 w (F v :: l)) : Sep B w0 w (ExR F :: l) := by
  obtain ⟨hB, hb, Y, ⟨_, X, Z, ha, hl, hd, hy⟩, hY⟩ := h
  exact ⟨hB, hb, Y, ⟨good_ex hF, X, Z, ⟨v, ha⟩, hl, hd, hy⟩, hY⟩
theorem Sep.putBlk {q : Nat} {o : Obj} (h : Sep B w0 w (Blk q o :: l)) (o' : Obj) : Sep B w0 (w.putObj q o') (Blk q o' :: l) := by
  refine h.step (good_blk _ _) fun X hX => ⟨X, ⟨World.putObj_heap_same (Array.getElem?_eq_some_iff.1 hX.1).1, hX.2⟩, ⟨rfl, rfl, rfl, by simp, fun k _ hx => World.putObj_heap_other (fun e => hx (by rw [e]; exact (hX.2 q).2 rfl))⟩, fun k hk => .inl hk⟩
end
section
variable {B : Nat} {w0 w w' : World} {l : List Res} {q : Nat} {cs : Array Value} {t : TypeId}
theorem Sep.blkSet (h : Sep B w0 w (Blk q (.cells cs t) :: l)) (i : Nat) (v : Value) : Sep B w0 (w.setCell ⟨q, i, none⟩ v) (Blk q (.cells (cs.setIfInBounds i v) t) :: l) :=
  h.step (good_blk _ _) fun X hX => ⟨X, ⟨Cl.set hX.1 i v, hX.2⟩, Turn.setCell w ((hX.2 q).2 rfl) v, fun k hk => .inl hk⟩
theorem Sep.cl (h : Sep B w0 w (Blk q (.cells cs t) :: l)) : Cl w q cs t := h.blk
end
theorem Sep.ne {B : Nat} {w0 w : World} {l : List Res} {q q' : Nat} {o o' : Obj} (h : Sep B w0 w (Blk q o :: Blk q' o' :: l)) : q ≠ q' := fun e => by
  obtain ⟨_, _, Y, ⟨_, X, Z, hx, ⟨_, X', Z', hx', _, _, hz⟩, hd, _⟩, _⟩ := h
  exact hd q ((hx.2 q).2 rfl) ((hz q).2 (.inl ((hx'.2 q).2 e)))
theorem Sep.addBlkAt {B : Nat} {w0 w : World} {l : List Res} (h : Sep B w0 w l) (o : Obj) (q : Nat) (hq : q = w.heap.size) : Sep B w0 (w.alloc o) (Blk q o :: l) := by subst hq; exact h.addBlk o

theorem ownZero {W : World} {base : Nat} {e : TypeId} {size : Nat} {v : Value} {k : Nat} {xs : List Value} (h : W.ownsRow base e size v k xs) : W.ownsRow 0 e size v k xs := by
  refine ⟨h.1, ?_⟩
  rcases h.2 with h1 | ⟨g, cap, cur, h1, _, h3⟩
  · exact .inl h1
  · exact .inr ⟨g, cap, cur, h1, Nat.zero_le _, h3⟩
/-- A row of things of k cells each, in a block of its own, or none. -/
def RowK (e : TypeId) (k : Nat) (v : Value) (n : Nat) (cs : List Value) : Res := fun w X => w.ownsRow 0 e k v n cs ∧ ∀ q, X q ↔ v.ownBlock = some q
theorem good_rowK (e : TypeId) (k : Nat) (v : Value) (n : Nat) (cs : List Value) : Good (RowK e k v n cs) :=
  ⟨fun w w' X h hk _ => ⟨ownsRow_kept' h.1 (fun q hq => hk q ((h.2 q).2 hq)), h.2⟩, fun w X h q hq => (h.1.lt q ((h.2 q).1 hq)).2⟩
section
variable {B : Nat} {w0 w w' : World} {l : List Res} {e : TypeId} {k n : Nat} {v v' : Value} {cs : List Value}
theorem Sep.rowK (h : Sep B w0 w (RowK e k v n cs :: l)) : w.ownsRow 0 e k v n cs := by
  obtain ⟨_, _, Y, ⟨_, X, _, ha, _⟩, _⟩ := h; exact ha.1
theorem Sep.nilK (h : Sep B w0 w l) : Sep B w0 w (RowK e k (.slice none 0 0) 0 [] :: l) :=
  h.add (Below.refl _ _) (good_rowK _ _ _ _ _) (X := fun _ => False) ⟨World.ownsRow_nil w 0 e k, fun q => by simp [Value.ownBlock]⟩ (fun _ h => h.elim)
theorem Sep.rowKcell (h : Sep B w0 w (RowK e k v n cs :: l)) (hn : 0 < cs.length) : ∃ r c, v = .slice (some ⟨r, 0, none⟩) n c ∧ n ≤ c ∧ r < w.heap.size ∧ ∀ j, j < cs.length → w.cell? ⟨r, j, none⟩ = cs[j]? := by
  have o := h.rowK
  have hlen : cs.length = n * k := o.1
  rcases o.2 with ⟨h1, h2⟩ | ⟨g, cap, cur, h1, h2, h3, h4, h5, h6, h7⟩
  · rw [h2] at hlen; simp at hlen; rw [hlen] at hn; simp at hn
  · refine ⟨g, cap, h1, h4, (Array.getElem?_eq_some_iff.1 h3).1, fun j hj => ?_⟩
    simp only [World.cell?, h3]
    rw [← h7, List.getElem?_take_of_lt (by omega)]
    simp
theorem Sep.rowKshape (h : Sep B w0 w (RowK e k v n cs :: l)) : ∃ ao c, v = .slice ao n c := by
  rcases h.rowK.2 with ⟨h1, h2⟩ | ⟨g, cap, cur, h1, _⟩
  · exact ⟨none, 0, by rw [h1, h2]⟩
  · exact ⟨_, _, h1⟩
theorem Sep.addK (h : Sep B w0 w l) (hb : Below w.heap.size w w') (o : w'.ownsRow w.heap.size e k v n cs) : Sep B w0 w' (RowK e k v n cs :: l) :=
  h.add hb (good_rowK _ _ _ _ _) (X := fun q => v.ownBlock = some q) ⟨ownZero o, fun _ => Iff.rfl⟩ (fun q hq => by
    rcases o.2 with ⟨e, _⟩ | ⟨g, cap, cur, e, hg, _⟩
    · rw [e] at hq; simp [Value.ownBlock] at hq
    · rw [e] at hq; simp [Value.ownBlock] at hq; omega)
end

attribute [local go_sem] Oper.semAt_some

/-- The loop's record. -/
def recO (fn : FuncId) (tmps : Array Value) (ps : Array Tmp) (assign body : Code) (D : Nat) (st : LoopState) (pe : Option Code) : Obj := .loop { state := st, pending := pe, fn, tmps, params := ps, assign, body, defers := D }

/-- A range over a function, by the one call that it makes. -/
theorem rangeFunc_call {F : Fence} {P : Program} (hro : F.round = none) (hFa : ∀ f, F.fn f) {n : Nat} {g : Operand} {ps : Array Tmp} {assign body : Code} {Q : Exit → Act → World → Prop} {a : Act} {w : World} {gf : Nat} {lb : Array Value} (hg : a.eval g = .func (.func gf) #[] lb) (eg : ∀ args w, (callFunc gf args).run P w = .ok (.enter gf args) w) (h1 : 1 ≤ n)
    (h : ∀ (fn : FuncId) (K : LoopState → Option Code → Obj), K = recO fn a.tmps ps assign body w.heap.size → CallsIn F (n - 1) P gf (#[.func (.yield (w.heap.size + 1)) #[] #[]] ++ lb) ((w.alloc (.deferred (some []))).alloc (K .ready none)) (rangePost F n P (w.heap.size + 1) Q { a with defers := [{ target := .collected w.heap.size, args := #[] }] ++ a.defers })) :
    (Code.rangeFunc g ps assign body).wpIn F n P Q a w := by
  refine wpIn_rangeFunc ?_
  intro fn hfn
  have h2 := h fn _ rfl
  have he : (Instr.enterLoop fn a.tmps ps assign body F.round).run P w = .ok (w.heap.size + 1, [{ target := .collected w.heap.size, args := #[] }]) ((w.alloc (.deferred (some []))).alloc (recO fn a.tmps ps assign body w.heap.size .ready none)) := by
    rw [hro]
    unfold recO
    exact run_enterLoop_outer _ _ _ _ _
  generalize (w.alloc (.deferred (some []))).alloc (recO fn a.tmps ps assign body w.heap.size .ready none) = W1 at *
  refine ⟨w.heap.size + 1, [{ target := .collected w.heap.size, args := #[] }], W1, { target := .fn (.func gf) lb, args := #[.func (.yield (w.heap.size + 1)) #[] #[]] }, W1, gf,
    #[.func (.yield (w.heap.size + 1)) #[] #[]] ++ lb, W1, he, ?_, ?_, ?_, fun _ => h1, ?_⟩
  · simp only [resolve, hg]
    simp [go_sem]
  · intro f' _; exact hFa f'
  · simp [invoke, go_sem, eg]
  · exact h2

/-- One round, by the walk of its assignments and of its body. -/
theorem yield_sep {B : Nat} {w0 W : World} {lp m : Nat} {fn : FuncId} {tmps : Array Value} {ps : Array Tmp} {assign body : Code} {D : Nat} {r : List Res} {args : Array Value} {R : Ending → World → Prop} {K : LoopState → Option Code → Obj} (hK : K = recO fn tmps ps assign body D)
    (S : Sep B w0 W (Blk lp (K .ready none) :: r)) (hps : args.size = ps.size)
    (h : assign.wpIn (Fence.wide.inRound lp) m Tryz.prog (Exit.then (fun a₁ w₁ => ∃ r1, Sep B w0 w₁ (Blk lp (K .ready none) :: r1) ∧ ∀ w₂, Sep B w0 w₂ (Blk lp (K .busy none) :: r1) →
      body.wpIn (Fence.wide.inRound lp) m Tryz.prog (fun e _ w3 => ∃ r2, Sep B w0 w3 (Blk lp (K .busy none) :: r2) ∧
        ((e = .normal ∧ ∀ w4, Sep B w0 w4 (Blk lp (K .ready none) :: r2) → R (.returned (.bool true)) w4) ∨ (e = .ret ∧ ∀ w4, Sep B w0 w4 (Blk lp (K .done (some .ret)) :: r2) → R (.returned (.bool false)) w4))) a₁ w₂) (fun _ _ _ => False))
      { tmps := (ps.zip args).foldl (fun t (p, v) => t.setIfInBounds p v) tmps, defers := [] } W) : YieldAt Fence.wide m Tryz.prog lp args W R := by
  subst hK
  have hl := S.blk
  refine ⟨fn, _, assign, body, run_yield (P := Tryz.prog) (args := args) hl hps, roundIn_of_wpIn trivial (wpIn_mono h ?_)⟩
  rintro e a1 w1 hp
  cases e with
  | normal =>
    obtain ⟨r1, S1, hb⟩ := hp
    refine ⟨_, run_beginRound S1.blk rfl, wpIn_mono (hb _ (S1.putBlk _)) ?_⟩
    rintro e a3 w3 ⟨r2, S3, (⟨rfl, hR⟩ | ⟨rfl, hR⟩)⟩
    · exact ⟨_, _, run_endRound (P := Tryz.prog) none S3.blk, hR _ (S3.putBlk _)⟩
    · exact ⟨_, _, run_endRound (P := Tryz.prog) (some .ret) S3.blk, hR _ (S3.putBlk _)⟩
  | ret => exact hp.elim
  | exit id => exact hp.elim
  | goto t => exact hp.elim
  | panic ch => exact hp.elim
  | outgrown => exact hp.elim

end Go.Proofs.YtljmkajpjjdnhaaGreatDoor


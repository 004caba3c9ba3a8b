/-
  The statements' own small functions: full, works; and what they read of a list of acts.
-/
import Derived.Test.YtalljfckjkbieaaDoorPf
namespace Go.Proofs.YtalljfckjkbieaaDoor
open Go.RowKit
set_option linter.unusedVariables false

/-- A text with n noughts behind it. -/
def zs (s : ByteArray) (n : Nat) : ByteArray := ⟨(s.data.toList ++ List.replicate n 0).toArray⟩
theorem zs_size (s : ByteArray) (n : Nat) : (zs s n).size = s.size + n := by
  unfold zs; rw [ba_size, List.length_append, List.length_replicate]; simp
theorem zs_zero (s : ByteArray) : zs s 0 = s := by
  unfold zs
  apply ByteArray.ext
  simp
theorem zs_succ (s : ByteArray) (n : Nat) : zs s n ++ ⟨#[0]⟩ = zs s (n + 1) := by
  apply ByteArray.ext
  rw [ByteArray.data_append]
  unfold zs
  simp [List.replicate_succ']
theorem zs_full (s : ByteArray) (n : Nat) (h : 256 ≤ s.size + n) (hn : n = 0 ∨ s.size + n = 256) : (zs s n).extract 0 256 = fullS s := by
  have : n = 256 - s.size := by omega
  subst this
  rfl

def ab : ByteArray := ⟨#[97, 98]⟩
def ff0 : Dk := Dk.new 4
def ff1 : Int × Dk := ff0.wr 1 1 ab
def ff2 : Int × Dk := ff1.2.wr 3 1 ab
def ff3 : (ByteArray × Int) × Dk := ff2.2.rd 3 1
def ff4 : (ByteArray × Int) × Dk := ff3.2.rd 3 2
def ff5 : (ByteArray × Int) × Dk := ff4.2.rd 2 1
theorem ff_1 : ff1.1 = 40 ∧ ff2.1 = 0 ∧ ff0.pend.length = 0 ∧ ff1.2.pend.length = 0 ∧ ff5.2.room = 4 := by decide +kernel
theorem ff_3 : ff3.1.1 = ab ∧ ff3.1.2 = 0 ∧ ff4.1.2 = 3 ∧ ff5.1.2 = 3 := by decide +kernel

/-- One act. -/
structure A1 where
  k : Int
  i : Int
  kd : UInt8
  s : ByteArray
def a0 : A1 := ⟨0, 0, 0, ByteArray.empty⟩

/-- A slice of acts that can be read. -/
structure ActRow (w : World) (v : Value) (l : List A1) : Prop where
  row : ∃ ao cap, v = .slice ao l.length cap ∧ (l ≠ [] → ∃ r o, ao = some ⟨r, o, none⟩ ∧ r < w.heap.size ∧ ∀ j, j < l.length →
    w.cell? ⟨r, o + j * 4, none⟩ = some (.int .i64 (l.getD j a0).k) ∧ w.cell? ⟨r, o + j * 4 + 1, none⟩ = some (.int .i64 (l.getD j a0).i) ∧ w.cell? ⟨r, o + j * 4 + 2, none⟩ = some (.int .u8 ((l.getD j a0).kd.toNat : Int)) ∧
    w.cell? ⟨r, o + j * 4 + 3, none⟩ = some (.string (l.getD j a0).s))
  ok : ∀ a ∈ l, a.s.size ≤ maxLen ∧ a.i ≤ 9223372036854775807

theorem ActRow.below {w w' : World} {v : Value} {l : List A1} {B : Nat} (h : ActRow w v l) (hb : Below B w w') (hB : w.heap.size ≤ B) : ActRow w' v l := by
  obtain ⟨⟨ao, cap, e, h1⟩, h2⟩ := h
  refine ⟨⟨ao, cap, e, fun hne => ?_⟩, h2⟩
  obtain ⟨r, o, e2, hr, hc⟩ := h1 hne
  have k : ∀ j, w'.cell? ⟨r, j, none⟩ = w.cell? ⟨r, j, none⟩ := fun j => World.cell?_of_block (a := ⟨r, j, none⟩) (hb.block r (by omega))
  refine ⟨r, o, e2, Nat.lt_of_lt_of_le hr hb.size, fun j hj => ?_⟩
  rw [k, k, k, k]
  exact hc j hj

/-- What is read of one act, in a later world. -/
theorem ActRow.at {w wr : World} {ao : Option Addr} {n cap : Nat} {l : List A1} {B : Nat} (h : ActRow w (.slice ao n cap) l) (hb : Below B w wr) (hB : w.heap.size ≤ B) {j : Nat} (hj : j < l.length) :
    ∃ r o, ao = some ⟨r, o, none⟩ ∧ r < wr.heap.size ∧ wr.cell? ⟨r, o + j * 4, none⟩ = some (.int .i64 (l.getD j a0).k) ∧ wr.cell? ⟨r, o + j * 4 + 1, none⟩ = some (.int .i64 (l.getD j a0).i) ∧ wr.cell? ⟨r, o + j * 4 + 2, none⟩ = some (.int .u8 ((l.getD j a0).kd.toNat : Int)) ∧
    wr.cell? ⟨r, o + j * 4 + 3, none⟩ = some (.string (l.getD j a0).s) ∧ (l.getD j a0).s.size ≤ maxLen ∧ (l.getD j a0).i ≤ 9223372036854775807 := by
  obtain ⟨⟨ao', cap', e, h1⟩, h2⟩ := h.below hb hB
  cases e
  obtain ⟨r, o, e2, hr, hc⟩ := h1 (by intro e; rw [e] at hj; simp at hj)
  obtain ⟨x0, x1, x2, x3⟩ := hc j hj
  have hm : l.getD j a0 ∈ l := by rw [List.getD_eq_getElem?_getD, List.getElem?_eq_getElem hj]; exact List.getElem_mem hj
  exact ⟨r, o, e2, hr, x0, x1, x2, x3, h2 _ hm⟩
/-- The same of a slice whose place is known. -/
theorem ActRow.cells {w wr : World} {r o n cap : Nat} {l : List A1} {B : Nat} (h : ActRow w (.slice (some ⟨r, o, none⟩) n cap) l) (hb : Below B w wr) (hB : w.heap.size ≤ B) {j : Nat} (hj : j < l.length) {A : A1} (hA : l.getD j a0 = A) :
    wr.cell? ⟨r, o + j * 4 + 1, none⟩ = some (.int .i64 A.i) ∧ wr.cell? ⟨r, o + j * 4 + 3, none⟩ = some (.string A.s) ∧ r < wr.heap.size := by
  obtain ⟨r', o', e, hr, x0, x1, x2, x3, _⟩ := h.at hb hB hj
  cases e
  rw [hA] at x1 x3
  exact ⟨x1, x3, hr⟩

end Go.Proofs.YtalljfckjkbieaaDoor

/-
  Acts on a change, as an argument: a slice of acts that can be read.
-/
import Derived.Test.YtnngfkjbbedkpaaGreatDoorAlRows
namespace Go.Proofs.YtnngfkjbbedkpaaGreatDoor
open Go.Shelf Go.RowKit Go.Lib Go.Sort
set_option linter.unusedVariables false

/-- One act. -/
structure A10 where
  k : Int
  i : Int
  kd : UInt8
  s : ByteArray
def a10 : A10 := ⟨0, 0, 0, ByteArray.empty⟩

/-- A slice of acts that can be read. -/
structure ActR10 (w : World) (v : Value) (l : List A10) : Prop where
  row : ∃ ao cap, v = .slice ao l.length cap ∧ (l ≠ [] → ∃ r o, ao = some ⟨r, o, none⟩ ∧ r < w.heap.size ∧ ∀ j, j < l.length →
    w.cell? ⟨r, o + j * 4, none⟩ = some (.int .i64 (l.getD j a10).k) ∧ w.cell? ⟨r, o + j * 4 + 1, none⟩ = some (.int .i64 (l.getD j a10).i) ∧ w.cell? ⟨r, o + j * 4 + 2, none⟩ = some (.int .u8 ((l.getD j a10).kd.toNat : Int)) ∧
    w.cell? ⟨r, o + j * 4 + 3, none⟩ = some (.string (l.getD j a10).s))
  ok : ∀ a ∈ l, a.s.size ≤ maxLen ∧ Wf a.i

theorem ActR10.below {w w' : World} {v : Value} {l : List A10} {B : Nat} (h : ActR10 w v l) (hb : Below B w w') (hB : w.heap.size ≤ B) : ActR10 w' v l := by
  obtain ⟨⟨ao, cap, e, h1⟩, h2⟩ := h
  refine ⟨⟨ao, cap, e, fun hne => ?_⟩, h2⟩
  obtain ⟨r, o, e2, hr, hc⟩ := h1 hne
  have k : ∀ j, w'.cell? ⟨r, j, none⟩ = w.cell? ⟨r, j, none⟩ := fun j => World.cell?_of_block (a := ⟨r, j, none⟩) (hb.block r (by omega))
  refine ⟨r, o, e2, Nat.lt_of_lt_of_le hr hb.size, fun j hj => ?_⟩
  rw [k, k, k, k]
  exact hc j hj

/-- What is read of one act, in a later world. -/
theorem ActR10.at {w wr : World} {ao : Option Addr} {n cap : Nat} {l : List A10} {B : Nat} (h : ActR10 w (.slice ao n cap) l) (hb : Below B w wr) (hB : w.heap.size ≤ B) {j : Nat} (hj : j < l.length) :
    ∃ r o, ao = some ⟨r, o, none⟩ ∧ r < wr.heap.size ∧ wr.cell? ⟨r, o + j * 4, none⟩ = some (.int .i64 (l.getD j a10).k) ∧ wr.cell? ⟨r, o + j * 4 + 1, none⟩ = some (.int .i64 (l.getD j a10).i) ∧ wr.cell? ⟨r, o + j * 4 + 2, none⟩ = some (.int .u8 ((l.getD j a10).kd.toNat : Int)) ∧
    wr.cell? ⟨r, o + j * 4 + 3, none⟩ = some (.string (l.getD j a10).s) ∧ (l.getD j a10).s.size ≤ maxLen ∧ Wf (l.getD j a10).i := by
  obtain ⟨⟨ao', cap', e, h1⟩, h2⟩ := h.below hb hB
  cases e
  obtain ⟨r, o, e2, hr, hc⟩ := h1 (by intro e; rw [e] at hj; simp at hj)
  obtain ⟨x0, x1, x2, x3⟩ := hc j hj
  have hm : l.getD j a10 ∈ l := by rw [List.getD_eq_getElem?_getD, List.getElem?_eq_getElem hj]; exact List.getElem_mem hj
  exact ⟨r, o, e2, hr, x0, x1, x2, x3, h2 _ hm⟩

theorem act10_cells {w : World} {q : Nat} {v0 v1 v2 v3 : Value} {t : TypeId} (h : w.heap[q]? = some (.cells #[v0, v1, v2, v3] t (0, 0))) :
    w.cell? ⟨q, 0, none⟩ = some v0 ∧ w.cell? ⟨q, 1, none⟩ = some v1 ∧ w.cell? ⟨q, 2, none⟩ = some v2 ∧ w.cell? ⟨q, 3, none⟩ = some v3 ∧ q < w.heap.size := by
  refine ⟨?_, ?_, ?_, ?_, (Array.getElem?_eq_some_iff.1 h).1⟩ <;> simp [World.cell?, h]

end Go.Proofs.YtnngfkjbbedkpaaGreatDoor

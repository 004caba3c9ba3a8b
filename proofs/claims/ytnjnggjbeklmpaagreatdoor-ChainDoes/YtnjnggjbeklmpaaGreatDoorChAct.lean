/-
  Acts on a chain: what is read of them; how far Write and Read turn a disk.
-/
import Derived.Test.YtnjnggjbeklmpaaGreatDoorChRefR
namespace Go.Proofs.YtnjnggjbeklmpaaGreatDoor
open Go.Shelf Go.RowKit Go.Lib Go.Sort
set_option linter.unusedVariables false

/-- One act, with the values that its slices are. -/
structure C9 where
  k : Int
  lv : Value
  l : List Pr
  iv : Value
  ids : List Int
  h : Int
  s : ByteArray
def c9 : C9 := ⟨0, .slice none 0 0, [], .slice none 0 0, [], 0, ByteArray.empty⟩

/-- A slice of acts that can be read. -/
structure ActsR9 (w : World) (v : Value) (l : List C9) : Prop where
  row : ∃ ao cap, v = .slice ao l.length cap ∧ (l ≠ [] → ∃ r o, ao = some ⟨r, o, none⟩ ∧ r < w.heap.size ∧ ∀ j, j < l.length →
    w.cell? ⟨r, o + j * 5, none⟩ = some (.int .i64 (l.getD j c9).k) ∧ w.cell? ⟨r, o + j * 5 + 1, none⟩ = some (l.getD j c9).lv ∧ w.cell? ⟨r, o + j * 5 + 2, none⟩ = some (l.getD j c9).iv ∧
    w.cell? ⟨r, o + j * 5 + 3, none⟩ = some (.int .i64 (l.getD j c9).h) ∧ w.cell? ⟨r, o + j * 5 + 4, none⟩ = some (.string (l.getD j c9).s))
  ok : ∀ a ∈ l, Row encP 2 w a.lv a.l ∧ IntRow w a.iv a.ids ∧ a.s.size ≤ maxLen ∧ a.h ≤ 9223372036854775807

/-- What is read of one act, in a later world. -/
theorem ActsR9.at {w wr : World} {ao : Option Addr} {n cap : Nat} {l : List C9} {B : Nat} (h : ActsR9 w (.slice ao n cap) l) (hb : Below B w wr) (hB : w.heap.size ≤ B) {j : Nat} (hj : j < l.length) :
    ∃ r o, ao = some ⟨r, o, none⟩ ∧ r < wr.heap.size ∧ wr.cell? ⟨r, o + j * 5, none⟩ = some (.int .i64 (l.getD j c9).k) ∧ wr.cell? ⟨r, o + j * 5 + 1, none⟩ = some (l.getD j c9).lv ∧ wr.cell? ⟨r, o + j * 5 + 2, none⟩ = some (l.getD j c9).iv ∧
    wr.cell? ⟨r, o + j * 5 + 3, none⟩ = some (.int .i64 (l.getD j c9).h) ∧ wr.cell? ⟨r, o + j * 5 + 4, none⟩ = some (.string (l.getD j c9).s) ∧ Row encP 2 w (l.getD j c9).lv (l.getD j c9).l ∧ IntRow w (l.getD j c9).iv (l.getD j c9).ids ∧ (l.getD j c9).s.size ≤ maxLen ∧ (l.getD j c9).h ≤ 9223372036854775807 := by
  obtain ⟨⟨ao', cap', e, h1⟩, h2⟩ := h
  cases e
  obtain ⟨r, o, e2, hr, hc⟩ := h1 (by intro e; rw [e] at hj; simp at hj)
  obtain ⟨x0, x1, x2, x3, x4⟩ := hc j hj
  have k : ∀ j, wr.cell? ⟨r, j, none⟩ = w.cell? ⟨r, j, none⟩ := fun j => World.cell?_of_block (a := ⟨r, j, none⟩) (hb.block r (by omega))
  have hm : l.getD j c9 ∈ l := by rw [List.getD_eq_getElem?_getD, List.getElem?_eq_getElem hj]; exact List.getElem_mem hj
  refine ⟨r, o, e2, Nat.lt_of_lt_of_le hr hb.size, ?_, ?_, ?_, ?_, ?_, h2 _ hm⟩ <;> rw [k] <;> assumption

theorem wrs_turn : ∀ (ids : List Int) (d : Dk) (s : List Pr), (wrs ids d s).2.sure = d.sure ∧ (wrs ids d s).2.pend.length ≤ d.pend.length + ids.length
  | [], d, s => ⟨rfl, Nat.le_refl _⟩
  | id :: rest, d, s => by
    rw [wrs]
    obtain ⟨h1, h2⟩ := d.wr_sure id 3 (bodyS (rest.headD 0) (s.take 29))
    split
    · split
      · obtain ⟨g1, g2⟩ := wrs_turn rest (d.wr id 3 (bodyS (rest.headD 0) (s.take 29))).2 (s.drop 29)
        exact ⟨g1.trans h1, by rw [List.length_cons]; omega⟩
      · exact ⟨h1, by rw [List.length_cons]; omega⟩
    · exact ⟨rfl, by show d.pend.length ≤ _; omega⟩
theorem Dk.cw_turn (d : Dk) (l : List Pr) (ids : List Int) : (d.cw l ids).2.sure = d.sure ∧ (d.cw l ids).2.pend.length ≤ d.pend.length + ids.length := by
  unfold Dk.cw
  split
  · exact wrs_turn _ _ _
  · exact ⟨rfl, by show d.pend.length ≤ _; omega⟩
theorem Dk.cr_turn (d : Dk) (head : Int) : (d.cr head).2.sure = d.sure ∧ (d.cr head).2.pend = d.pend ∧ (d.cr head).1.1.length ≤ 29 * (d.sure.length + 1) ∧ (d.cr head).1.2.1.length ≤ d.sure.length + 1 := by
  obtain ⟨h1, h2, h3, h4⟩ := rdC_len (d.sure.length + 1) d [] [] head
  have h5 := nmL_length (rdC (d.sure.length + 1) d [] [] head).1.1
  refine ⟨h2, h3, ?_, ?_⟩
  · show (nmL _).length ≤ _
    simp at h1
    omega
  · show (rdC _ _ _ _ _).1.2.1.length ≤ _
    simp at h4
    omega
theorem act9_cells {w : World} {q : Nat} {v0 v1 v2 v3 v4 : Value} {t : TypeId} (h : w.heap[q]? = some (.cells #[v0, v1, v2, v3, v4] t (0, 0))) :
    w.cell? ⟨q, 0, none⟩ = some v0 ∧ w.cell? ⟨q, 1, none⟩ = some v1 ∧ w.cell? ⟨q, 2, none⟩ = some v2 ∧ w.cell? ⟨q, 3, none⟩ = some v3 ∧ w.cell? ⟨q, 4, none⟩ = some v4 ∧ q < w.heap.size := by
  simp [World.cell?, h]
  exact (Array.getElem?_eq_some_iff.1 h).1
theorem new_len {n : Int} (h : n ≤ 40) : (Dk.new n).sure.length ≤ 1000 := by
  unfold Dk.new
  simp
  omega

end Go.Proofs.YtnjnggjbeklmpaaGreatDoor

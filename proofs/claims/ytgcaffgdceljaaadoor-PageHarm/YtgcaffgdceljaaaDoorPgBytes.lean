/-
  Bytes in a block of their own: what []byte(s) lays, stores into it, and the text back.
-/
import Derived.Test.YtgcaffgdceljaaaDoorPgUse
import Derived.Deep.DeepCutAuto
import Derived.Laws.IdiomStrings
namespace Go.Proofs.YtgcaffgdceljaaaDoor
open Go.RowKit

/-- Block b holds the bytes l, and may be written. -/
structure Bytes (b : Nat) (l : List UInt8) (W : World) : Prop where
  lt : b < W.heap.size
  cell : ∀ j (hj : j < l.length), W.cell? ⟨b, j, none⟩ = some (.int .u8 (l[j].toNat : Int))
  free : ∀ j, j < l.length → W.frozen? ⟨b, j, none⟩ = false

theorem made (s : ByteArray) (w : World) : ∃ W cap, Sem.run Tryd.prog (convert 9 37 (.string s)) w = .ok (.slice (some ⟨w.heap.size, 0, none⟩) s.size cap) W ∧ Below w.heap.size w W ∧ Bytes w.heap.size s.data.toList W := by
  refine ⟨_, _, run_bytes_of_string w 9 37 5 s Tryd.underlying9 Tryd.underlying37 Tryd.underlying5, (Below.refl _ _).drew.alloc (Nat.le_refl _) _, ?_⟩
  refine ⟨by simp, fun j hj => ?_, fun j hj => ?_⟩
  · have h := World.cell?_alloc_mark w.drew (bytesRow s (grownCap w s.size 0 5)) 5 ((bytesRow s (grownCap w s.size 0 5)).size, (bytesRow s (grownCap w s.size 0 5)).size + 1) j
    rw [bytesRow_at s _ j (by simpa using hj)] at h
    simpa using h
  · have h := World.frozen?_alloc_mark w.drew (bytesRow s (grownCap w s.size 0 5)) 5 (bytesRow s (grownCap w s.size 0 5)).size ((bytesRow s (grownCap w s.size 0 5)).size + 1) j
    have hj' : ¬ (bytesRow s (grownCap w s.size 0 5)).size ≤ j := by
      have : j < s.data.size := by simpa using hj
      unfold bytesRow
      rw [Array.size_append, Array.size_map]
      omega
    rw [show (w.drew.heap.size) = w.heap.size from rfl] at h
    rw [h]
    simp [hj']

/-- A byte put at place k. -/
theorem Bytes.put {b k : Nat} {p q : List UInt8} {x : UInt8} {W : World} (h : Bytes b (p ++ x :: q) W) (hk : p.length = k) (y : UInt8) (n : Nat) (hn : y.toNat = n) : Bytes b (p ++ y :: q) (W.setCell ⟨b, k, none⟩ (.int .u8 (n : Int))) := by
  subst hk hn
  have hlen : (p ++ y :: q).length = (p ++ x :: q).length := by simp
  refine ⟨by simpa [World.setCell] using h.lt, fun j hj => ?_, fun j hj => ?_⟩
  · by_cases hj' : j = p.length
    · subst hj'
      rw [World.cell?_setCell_same _ _ _ (h.cell p.length (by simp))]
      simp
    · rw [World.cell?_setCell_other _ _ _ _ (fun e => hj' (by injection e with _ e2; exact e2.symm)), h.cell j (by rw [← hlen]; exact hj)]
      congr 4
      simp only [List.getElem_append, List.getElem_cons]
      split
      · rfl
      · have : ¬ j - p.length = 0 := by omega
        simp [this]
  · rw [World.frozen?_setCell]
    exact h.free j (by rw [← hlen]; exact hj)

theorem Bytes.at {b k : Nat} {p q : List UInt8} {x : UInt8} {W : World} (h : Bytes b (p ++ x :: q) W) (hk : p.length = k) : W.cell? ⟨b, k, none⟩ = some (.int .u8 (x.toNat : Int)) ∧ W.frozen? ⟨b, k, none⟩ = false := by
  subst hk
  refine ⟨?_, h.free _ (by simp)⟩
  rw [h.cell p.length (by simp)]
  simp

theorem Bytes.back {b : Nat} {l : List UInt8} {W : World} (h : Bytes b l W) (n cap : Nat) (hn : n = l.length) : Sem.run Tryd.prog (convert 37 9 (.slice (some ⟨b, 0, none⟩) n cap)) W = .ok (.string ⟨l.toArray⟩) W := by
  subst hn
  refine run_convert_bytes_back _ 37 9 5 _ cap l Tryd.underlying37 Tryd.underlying5 Tryd.underlying9 (fun j hj => ?_)
  have e : (⟨b, 0, none⟩ : Addr).add j = ⟨b, j, none⟩ := by simp [Addr.add]; intro h; omega
  rw [e]
  exact h.cell j hj

theorem Bytes.below {b : Nat} {l : List UInt8} {W W' : World} (h : Bytes b l W) (hb : Below W.heap.size W W') : Bytes b l W' := by
  refine ⟨Nat.lt_of_lt_of_le h.lt hb.size, fun j hj => by rw [hb.cell h.lt]; exact h.cell j hj, fun j hj => ?_⟩
  have := h.free j hj
  unfold World.frozen? at this ⊢
  rw [hb.block b h.lt]
  exact this

/-- A list, about four of its places. -/
theorem four_of (l : List UInt8) (k : Nat) (h : k + 4 ≤ l.length) : ∃ p q x0 x1 x2 x3, p.length = k ∧ l = p ++ x0 :: x1 :: x2 :: x3 :: q := by
  refine ⟨l.take k, l.drop (k + 4), l[k], l[k + 1], l[k + 2], l[k + 3], by simp; omega, ?_⟩
  conv => lhs; rw [← List.take_append_drop k l, List.drop_eq_getElem_cons (by omega), List.drop_eq_getElem_cons (by omega), List.drop_eq_getElem_cons (by omega), List.drop_eq_getElem_cons (by omega)]

end Go.Proofs.YtgcaffgdceljaaaDoor

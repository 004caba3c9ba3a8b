/-
  Arguments opened: a slice of entries, out of what the form says of an argument.
-/
import Derived.Test.YtljmkajpjjdnhaaGreatDoorBEn
import Derived.ProofKit
import Derived.OpenShut
import Derived.ChangeOld
import Derived.Below
import Derived.Deep.SlicePairs
namespace Go.Proofs.YtljmkajpjjdnhaaGreatDoor.N
open Go.Deep Go.ChangeShapes Go.WideShapes Go.ChangeAt Go.RowKit Go.Shelf Go.Lib Go.Sort

theorem block_of_cell {W : World} {b o : Nat} {v : Value} (h : W.cell? ⟨b, o, none⟩ = some v) : b < W.heap.size := by
  rcases Nat.lt_or_ge b W.heap.size with hb | hb
  · exact hb
  · have e : W.heap[b]? = none := Array.getElem?_eq_none hb
    simp [World.cell?, e] at h

def txtOf : Value → ByteArray
  | .string z => z
  | _ => ⟨#[]⟩

/-- A row of entries that is no longer than a slice can be. -/
def RowN (W : World) (v : Value) (l : List En) : Prop := Row encP 2 W v l ∧ l.length ≤ 9223372036854775807

theorem row_cells2 {W : World} {a : Addr} {len cap : Nat} {V0 V1 : Nat → Value} (hl : len ≤ cap) (hc : ∀ i, i < len → W.cell? (a.add (i * 2)) = some (V0 i) ∧ W.cell? (a.add (i * 2 + 1)) = some (V1 i) ∧ (∃ z, V0 i = .string z) ∧ ∃ z, V1 i = .string z) :
    Row encP 2 W (.slice (some a) len cap) ((List.range len).map fun i => (txtOf (V0 i), txtOf (V1 i))) := by
  refine ⟨some a, cap, by simp, by simpa using hl, (fun h => by cases h), fun hne => ?_⟩
  have hpos : 0 < len := by
    rcases Nat.eq_zero_or_pos len with h | h
    · subst h; exact absurd rfl hne
    · exact h
  obtain ⟨b, off, spot⟩ := a
  have hspot : spot = none := by simpa [Addr.add] using World.cell?_spot (hc 0 hpos).1
  subst hspot
  have c00 := (hc 0 hpos).1
  rw [add_plain] at c00
  refine ⟨b, off, rfl, block_of_cell c00, fun t ht => ?_⟩
  have ht' : t < len * 2 := by simpa using ht
  rw [get_flatK _ _ _ _ (by simpa using ht)]
  obtain ⟨h0, h1, ⟨z0, e0⟩, ⟨z1, e1⟩⟩ := hc (t / 2) (by omega)
  rw [add_plain] at h0 h1
  have eg : ((List.range len).map fun i => (txtOf (V0 i), txtOf (V1 i))).toArray[t / 2]! = (z0, z1) := by
    rw [getElem!_pos _ _ (by simp; omega)]
    simp [e0, e1, txtOf]
  rw [eg]
  rcases Nat.mod_two_eq_zero_or_one t with hm | hm
  · rw [hm, show t = t / 2 * 2 by omega, h0, e0]; rfl
  · rw [hm, show t = t / 2 * 2 + 1 by omega, h1, e1]; rfl

variable {H : Type} {enc : TypeId × Value → H} {W : World} {base : Nat} {spare : Nat → Bool} {held : Bool} {fuel : Nat} {x : DataW H × List MemPlace}

set_option maxRecDepth 100000 in
theorem open_entries {a : Option Addr} {len cap : Nat} (h : DataW.trod enc Tryz.prog W base spare held fuel 22 (Value.slice a len cap).cells.toList = some x) : ∃ l : List En, RowN W (.slice a len cap) l := by
  rcases open_slice_pairs Tryz.underlying22 Tryz.underlying39 (by kernel_rfl) rfl rfl (by kernel_rfl) (by kernel_rfl) h with ⟨hcs, _⟩ | ⟨ad, l, c, m, n, V0, V1, D0, D1, P0, P1, hcs, _, hl, hmx, hm, _, hcell⟩
  · simp [Value.cells] at hcs
    obtain ⟨rfl, rfl, rfl⟩ := hcs
    exact ⟨[], ⟨none, 0, rfl, Nat.le_refl _, fun _ => rfl, fun h => absurd rfl h⟩, by simp⟩
  · simp [Value.cells] at hcs
    obtain ⟨rfl, rfl, rfl⟩ := hcs
    unfold maxLen at hmx
    refine ⟨_, row_cells2 (V0 := V0) (V1 := V1) hl fun i hi => ?_, by simp; omega⟩
    obtain ⟨c0, c1, t0, t1⟩ := hcell i (by rw [hm]; split <;> omega)
    obtain ⟨z0, e0, _⟩ := DataW.trod_string Tryz.underlying9 t0
    obtain ⟨z1, e1, _⟩ := DataW.trod_string Tryz.underlying9 t1
    exact ⟨c0, c1, ⟨z0, by simpa using e0⟩, ⟨z1, by simpa using e1⟩⟩

end Go.Proofs.YtljmkajpjjdnhaaGreatDoor.N

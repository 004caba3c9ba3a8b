/-
  Arguments opened: a slice of runs, of numbers, out of what the form says of an argument.
-/
import Derived.Test.YtnngfkjbbedkpaaGreatDoorAlLeast
import Derived.ProofKit
import Derived.OpenShut
import Derived.ChangeOld
import Derived.Below
import Derived.ChangeSlices
import Derived.Deep.Slices
import Derived.Deep.SlicePairs
namespace Go.Proofs.YtnngfkjbbedkpaaGreatDoor
open Go.Deep Go.ChangeShapes Go.WideShapes Go.ChangeAt Go.RowKit Go.ChangeMaps Go.Shelf Go.Lib Go.Sort
set_option linter.unusedVariables false

theorem block_of_cell {W : World} {b o : Nat} {v : Value} (h : W.cell? ⟨b, o, none⟩ = some v) : b < W.heap.size := by
  rcases Nat.lt_or_ge b W.heap.size with hb | hb
  · exact hb
  · have e : W.heap[b]? = none := Array.getElem?_eq_none hb
    simp [World.cell?, e] at h

def numOf : Value → Int
  | .int _ z => z
  | _ => 0

theorem row_cells2 {W : World} {a : Addr} {len cap : Nat} {V0 V1 : Nat → Value} (hl : len ≤ cap) (hc : ∀ i, i < len → W.cell? (a.add (i * 2)) = some (V0 i) ∧ W.cell? (a.add (i * 2 + 1)) = some (V1 i) ∧ (∃ z, V0 i = .int .i64 z) ∧ ∃ z, V1 i = .int .i64 z) :
    Row encP 2 W (.slice (some a) len cap) ((List.range len).map fun i => (numOf (V0 i), numOf (V1 i))) := by
  refine ⟨some a, cap, by simp, by simpa using hl, (fun h => by cases h), fun hne => ?_⟩
  have hpos : 0 < len := by
    rcases Nat.eq_zero_or_pos len with h | h
    · subst h; exact absurd rfl hne
    · exact h
  obtain ⟨b, off, spot⟩ := a
  have hspot : spot = none := by simpa [Addr.add] using World.cell?_spot (hc 0 hpos).1
  subst hspot
  have c00 := (hc 0 hpos).1
  rw [add_plain] at c00
  refine ⟨b, off, rfl, block_of_cell c00, fun t ht => ?_⟩
  have ht' : t < len * 2 := by simpa using ht
  rw [get_flatK _ _ _ _ (by simpa using ht)]
  obtain ⟨h0, h1, ⟨z0, e0⟩, ⟨z1, e1⟩⟩ := hc (t / 2) (by omega)
  rw [add_plain] at h0 h1
  have eg : ((List.range len).map fun i => (numOf (V0 i), numOf (V1 i))).toArray[t / 2]! = (z0, z1) := by
    rw [getElem!_pos _ _ (by simp; omega)]
    simp [e0, e1, numOf]
  rw [eg]
  rcases Nat.mod_two_eq_zero_or_one t with hm | hm
  · rw [hm, show t = t / 2 * 2 by omega, h0, e0]; rfl
  · rw [hm, show t = t / 2 * 2 + 1 by omega, h1, e1]; rfl

variable {H : Type} {enc : TypeId × Value → H} {W : World} {base : Nat} {spare : Nat → Bool} {held : Bool} {fuel : Nat} {x : DataW H × List MemPlace}

theorem open_introwW {cs : List Value} (h : DataW.trod enc Tryz.prog W base spare held fuel 61 cs = some x) : ∃ kv l, cs = [kv] ∧ IntRowW W kv l := by
  rcases open_ints Tryz.underlying61 Tryz.underlying3 (by kernel_rfl) h with ⟨rfl, _⟩ | ⟨a, len, cap, zs, rfl, _, hl, _, hz, _, hc, hwf⟩
  · exact ⟨_, [], rfl, ⟨none, 0, rfl, fun h => absurd rfl h⟩, fun k hk => by cases hk⟩
  · have hlz : len ≤ zs.length := by rw [hz]; split <;> omega
    refine ⟨_, zs.take len, rfl, ⟨some a, cap, by simp [Nat.min_eq_left hlz], fun hne => ?_⟩, fun k hk => ?_⟩
    · have hpos : 0 < len := by
        rcases Nat.eq_zero_or_pos len with e | e
        · subst e; exact absurd rfl hne
        · exact e
      obtain ⟨b, off, spot⟩ := a
      have c0 := hc 0 (by omega)
      have hspot : spot = none := by simpa [Addr.add] using World.cell?_spot c0
      subst hspot
      rw [add_plain] at c0
      refine ⟨b, off, rfl, block_of_cell c0, fun j hj => ?_⟩
      have hj2 : j < len := by simp at hj; omega
      have := hc j (by omega)
      rw [add_plain] at this
      rw [this]
      simp [List.getD_eq_getElem?_getD, List.getElem?_take_of_lt hj2]
    · have hm := hwf k (List.mem_of_mem_take hk)
      have h1 := of_decide_eq_true (Bool.and_eq_true_iff.1 hm).1
      have h2 := of_decide_eq_true (Bool.and_eq_true_iff.1 hm).2
      rw [show IntKind.min .i64 = -9223372036854775808 by decide] at h1
      rw [show IntKind.max .i64 = 9223372036854775807 by decide] at h2
      exact ⟨h1, h2⟩

set_option maxRecDepth 100000 in
theorem open_pairs {a : Option Addr} {len cap : Nat} (h : DataW.trod enc Tryz.prog W base spare held fuel 22 (Value.slice a len cap).cells.toList = some x) : ∃ l : List Pr, Row encP 2 W (.slice a len cap) l := by
  rcases open_slice_pairs Tryz.underlying22 Tryz.underlying69 (by kernel_rfl) rfl rfl (by kernel_rfl) (by kernel_rfl) h with ⟨hcs, _⟩ | ⟨ad, l, c, m, n, V0, V1, D0, D1, P0, P1, hcs, _, hl, _, hm, _, hcell⟩
  · simp [Value.cells] at hcs
    obtain ⟨rfl, rfl, rfl⟩ := hcs
    exact ⟨[], none, 0, rfl, Nat.le_refl _, fun _ => rfl, fun h => absurd rfl h⟩
  · simp [Value.cells] at hcs
    obtain ⟨rfl, rfl, rfl⟩ := hcs
    refine ⟨_, row_cells2 (V0 := V0) (V1 := V1) hl fun i hi => ?_⟩
    obtain ⟨c0, c1, t0, t1⟩ := hcell i (by rw [hm]; split <;> omega)
    obtain ⟨z0, e0, _⟩ := DataW.trod_int Tryz.underlying3 t0
    obtain ⟨z1, e1, _⟩ := DataW.trod_int Tryz.underlying3 t1
    exact ⟨c0, c1, ⟨z0, by simpa using e0⟩, ⟨z1, by simpa using e1⟩⟩

end Go.Proofs.YtnngfkjbbedkpaaGreatDoor

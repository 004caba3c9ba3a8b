/-
  Arguments opened: a pair, a slice of pairs, a slice of changes, out of what the form says of an argument.
-/
import Derived.Test.YtifeeneojlhffaaLists
import Derived.ProofKit
import Derived.OpenShut
import Derived.ChangeOld
import Derived.Below
import Derived.Deep.SlicePairs
namespace Go.Proofs.Ytifeeneojlhffaa
open Go.Deep Go.ChangeShapes Go.WideShapes Go.ChangeAt Go.RowKit Go.Shelf Go.Lib Go.Sort

theorem block_of_cell {W : World} {b o : Nat} {v : Value} (h : W.cell? ⟨b, o, none⟩ = some v) : b < W.heap.size := by
  rcases Nat.lt_or_ge b W.heap.size with hb | hb
  · exact hb
  · have e : W.heap[b]? = none := Array.getElem?_eq_none hb
    simp [World.cell?, e] at h

def numOf : Value → Int
  | .int _ z => z
  | _ => 0
def boolOf : Value → Bool
  | .bool b => b
  | _ => false

theorem row_cells2 {W : World} {a : Addr} {len cap : Nat} {V0 V1 : Nat → Value} (hl : len ≤ cap) (hc : ∀ i, i < len → W.cell? (a.add (i * 2)) = some (V0 i) ∧ W.cell? (a.add (i * 2 + 1)) = some (V1 i) ∧ (∃ z, V0 i = .int .i64 z) ∧ ∃ z, V1 i = .int .i64 z) :
    Row encP 2 W (.slice (some a) len cap) ((List.range len).map fun i => (numOf (V0 i), numOf (V1 i))) := by
  refine ⟨some a, cap, by simp, by simpa using hl, (fun h => by cases h), fun hne => ?_⟩
  have hpos : 0 < len := by
    rcases Nat.eq_zero_or_pos len with h | h
    · subst h; exact absurd rfl hne
    · exact h
  obtain ⟨b, off, spot⟩ := a
  have hspot : spot = none := by simpa [Addr.add] using World.cell?_spot (hc 0 hpos).1
  subst hspot
  have c00 := (hc 0 hpos).1
  rw [add_plain] at c00
  refine ⟨b, off, rfl, block_of_cell c00, fun t ht => ?_⟩
  have ht' : t < len * 2 := by simpa using ht
  rw [get_flatK _ _ _ _ (by simpa using ht)]
  obtain ⟨h0, h1, ⟨z0, e0⟩, ⟨z1, e1⟩⟩ := hc (t / 2) (by omega)
  rw [add_plain] at h0 h1
  have eg : ((List.range len).map fun i => (numOf (V0 i), numOf (V1 i))).toArray[t / 2]! = (z0, z1) := by
    rw [getElem!_pos _ _ (by simp; omega)]
    simp [e0, e1, numOf]
  rw [eg]
  rcases Nat.mod_two_eq_zero_or_one t with hm | hm
  · rw [hm, show t = t / 2 * 2 by omega, h0, e0]; rfl
  · rw [hm, show t = t / 2 * 2 + 1 by omega, h1, e1]; rfl

theorem row_cells3 {W : World} {a : Addr} {len cap : Nat} {V0 V1 V2 : Nat → Value} (hl : len ≤ cap) (hc : ∀ i, i < len → W.cell? (a.add (i * 3)) = some (V0 i) ∧ W.cell? (a.add (i * 3 + 1)) = some (V1 i) ∧ W.cell? (a.add (i * 3 + 2)) = some (V2 i) ∧ (∃ z, V0 i = .int .i64 z) ∧ (∃ z, V1 i = .int .i64 z) ∧ ∃ z, V2 i = .bool z) :
    Row encC 3 W (.slice (some a) len cap) ((List.range len).map fun i => ((numOf (V0 i), numOf (V1 i)), boolOf (V2 i))) := by
  refine ⟨some a, cap, by simp, by simpa using hl, (fun h => by cases h), fun hne => ?_⟩
  have hpos : 0 < len := by
    rcases Nat.eq_zero_or_pos len with h | h
    · subst h; exact absurd rfl hne
    · exact h
  obtain ⟨b, off, spot⟩ := a
  have hspot : spot = none := by simpa [Addr.add] using World.cell?_spot (hc 0 hpos).1
  subst hspot
  have c00 := (hc 0 hpos).1
  rw [add_plain] at c00
  refine ⟨b, off, rfl, block_of_cell c00, fun t ht => ?_⟩
  have ht' : t < len * 3 := by simpa using ht
  rw [get_flatK _ _ _ _ (by simpa using ht)]
  obtain ⟨h0, h1, h2, ⟨z0, e0⟩, ⟨z1, e1⟩, ⟨z2, e2⟩⟩ := hc (t / 3) (by omega)
  rw [add_plain] at h0 h1 h2
  have eg : ((List.range len).map fun i => ((numOf (V0 i), numOf (V1 i)), boolOf (V2 i))).toArray[t / 3]! = ((z0, z1), z2) := by
    rw [getElem!_pos _ _ (by simp; omega)]
    simp [e0, e1, e2, numOf, boolOf]
  rw [eg]
  have hm : t % 3 = 0 ∨ t % 3 = 1 ∨ t % 3 = 2 := by omega
  rcases hm with hm | hm | hm
  · rw [hm, show t = t / 3 * 3 by omega, h0, e0]; rfl
  · rw [hm, show t = t / 3 * 3 + 1 by omega, h1, e1]; rfl
  · rw [hm, show t = t / 3 * 3 + 2 by omega, h2, e2]; rfl

variable {H : Type} {enc : TypeId × Value → H} {W : World} {base : Nat} {spare : Nat → Bool} {held : Bool} {fuel : Nat} {x : DataW H × List MemPlace}

set_option maxRecDepth 100000 in
theorem open_pairs {a : Option Addr} {len cap : Nat} (h : DataW.trod enc Try.prog W base spare held fuel 39 (Value.slice a len cap).cells.toList = some x) : ∃ l : List Pr, Row encP 2 W (.slice a len cap) l := by
  rcases open_slice_pairs Try.underlying39 Try.underlying25 (by kernel_rfl) rfl rfl (by kernel_rfl) (by kernel_rfl) h with ⟨hcs, _⟩ | ⟨ad, l, c, m, n, V0, V1, D0, D1, P0, P1, hcs, _, hl, _, hm, _, hcell⟩
  · simp [Value.cells] at hcs
    obtain ⟨rfl, rfl, rfl⟩ := hcs
    exact ⟨[], none, 0, rfl, Nat.le_refl _, fun _ => rfl, fun h => absurd rfl h⟩
  · simp [Value.cells] at hcs
    obtain ⟨rfl, rfl, rfl⟩ := hcs
    refine ⟨_, row_cells2 (V0 := V0) (V1 := V1) hl fun i hi => ?_⟩
    obtain ⟨c0, c1, t0, t1⟩ := hcell i (by rw [hm]; split <;> omega)
    obtain ⟨z0, e0, _⟩ := DataW.trod_int Try.underlying3 t0
    obtain ⟨z1, e1, _⟩ := DataW.trod_int Try.underlying3 t1
    exact ⟨c0, c1, ⟨z0, by simpa using e0⟩, ⟨z1, by simpa using e1⟩⟩

set_option maxRecDepth 100000 in
theorem open_changes {a : Option Addr} {len cap : Nat} (h : DataW.trod enc Try.prog W base spare held fuel 40 (Value.slice a len cap).cells.toList = some x) : ∃ l : List Ch, Row encC 3 W (.slice a len cap) l := by
  rcases open_slice Try.underlying40 h with ⟨hcs, _⟩ | ⟨ad, l, c, m, n, D, Pl, hcs, _, hl, _, hm, _, hcell⟩
  · simp [Value.cells] at hcs
    obtain ⟨rfl, rfl, rfl⟩ := hcs
    exact ⟨[], none, 0, rfl, Nat.le_refl _, fun _ => rfl, fun h => absurd rfl h⟩
  · simp [Value.cells] at hcs
    obtain ⟨rfl, rfl, rfl⟩ := hcs
    have ce : Try.prog.cellsOf 50 = 3 := by kernel_rfl
    have cp : Try.prog.cellsOf 25 = 2 := by kernel_rfl
    have cb : Try.prog.cellsOf 4 = 1 := by kernel_rfl
    have ci : Try.prog.cellsOf 3 = 1 := by kernel_rfl
    have each : ∀ i, i < len → ∃ q : Value × Value × Value, W.cell? (ad.add (i * 3)) = some q.1 ∧ W.cell? (ad.add (i * 3 + 1)) = some q.2.1 ∧ W.cell? (ad.add (i * 3 + 2)) = some q.2.2 ∧ (∃ z, q.1 = .int .i64 z) ∧ (∃ z, q.2.1 = .int .i64 z) ∧ ∃ z, q.2.2 = .bool z := by
      intro i hi
      obtain ⟨cs', h1, h2⟩ := hcell i (by rw [hm]; split <;> omega)
      rw [ce] at h1
      obtain ⟨_, hlen, hc⟩ := World.cells?_some h1
      obtain ⟨y0, y1, k, _, _, g0, g1⟩ := trod_struct2 Try.underlying50 h2
      match cs', hlen with
      | [v0, v1, v2], _ =>
        simp [cp, cb] at g0 g1
        obtain ⟨u0, u1, k', _, _, f0, f1⟩ := trod_struct2 Try.underlying25 g0
        simp [ci] at f0 f1
        obtain ⟨z0, e0, _⟩ := DataW.trod_int Try.underlying3 f0
        obtain ⟨z1, e1, _⟩ := DataW.trod_int Try.underlying3 f1
        obtain ⟨z2, e2, _⟩ := DataW.trod_bool Try.underlying4 g1
        have c0 := hc 0 (by omega)
        have c1 := hc 1 (by omega)
        have c2 := hc 2 (by omega)
        rw [add_add] at c0 c1 c2
        exact ⟨(v0, v1, v2), by simpa using c0, by simpa using c1, by simpa using c2, ⟨z0, by simpa using e0⟩, ⟨z1, by simpa using e1⟩, ⟨z2, by simpa using e2⟩⟩
    obtain ⟨q, hq⟩ := choose_lt each
    exact ⟨_, row_cells3 (V0 := fun i => (q i).1) (V1 := fun i => (q i).2.1) (V2 := fun i => (q i).2.2) hl fun i hi => hq i hi⟩

set_option maxRecDepth 100000 in
theorem open_one {v : Value} {r : Reach} {b0 : Nat} (hval : Value.okWide Try.prog W r b0 25 v) (h : DataW.trod enc Try.prog W base spare held fuel 25 v.cells.toList = some x) : ∃ p : Pr, v = .agg #[.int .i64 p.1, .int .i64 p.2] := by
  obtain ⟨cs, rfl, hcs⟩ := okWide_struct Try.underlying25 hval
  have ci : Try.prog.cellsOf 3 = 1 := by kernel_rfl
  have cp : Try.prog.cellsOf 25 = 2 := by kernel_rfl
  rw [cp] at hcs
  obtain ⟨y0, y1, k, _, _, g0, g1⟩ := trod_struct2 Try.underlying25 h
  obtain ⟨l⟩ := cs
  match l, hcs with
  | [v0, v1], _ =>
    simp [ci, Value.cells] at g0 g1
    obtain ⟨z0, e0, _⟩ := DataW.trod_int Try.underlying3 g0
    obtain ⟨z1, e1, _⟩ := DataW.trod_int Try.underlying3 g1
    simp only [List.cons.injEq, and_true] at e0 e1
    subst e0 e1
    exact ⟨(z0, z1), rfl⟩

end Go.Proofs.Ytifeeneojlhffaa

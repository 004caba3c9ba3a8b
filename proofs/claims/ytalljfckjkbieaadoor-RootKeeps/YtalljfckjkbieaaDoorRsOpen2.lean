/-
  Arguments opened: a slice of roots, out of what the form says of an argument.
-/
import Derived.Test.YtalljfckjkbieaaDoorRsOpen
import Derived.Test.YtalljfckjkbieaaDoorRsKeep
namespace Go.Proofs.YtalljfckjkbieaaDoor
open Go.Deep Go.ChangeShapes Go.WideShapes Go.ChangeAt Go.RowKit Go.ChangeMaps
set_option linter.unusedVariables false

variable {H : Type} {enc : TypeId × Value → H} {W : World} {base : Nat} {spare : Nat → Bool} {held : Bool} {fuel : Nat} {x : DataW H × List MemPlace}

theorem cell_block {W : World} {b o : Nat} {v : Value} (h : W.cell? ⟨b, o, none⟩ = some v) : b < W.heap.size := by
  rcases Nat.lt_or_ge b W.heap.size with hb | hb
  · exact hb
  · have e : W.heap[b]? = none := Array.getElem?_eq_none hb
    simp [World.cell?, e] at h

set_option maxRecDepth 100000 in
theorem open_roots {a : Option Addr} {len cap : Nat} (h : DataW.trod enc Tryd.prog W base spare held fuel 37 (Value.slice a len cap).cells.toList = some x) : ∃ l : List Rt, RootRow W (.slice a len cap) l := by
  rcases open_slice Tryd.underlying37 h with ⟨hcs, _⟩ | ⟨ad, l, c, m, n, D, Pl, hcs, _, hl, _, hm, _, hcell⟩
  · simp [Value.cells] at hcs
    obtain ⟨rfl, rfl, rfl⟩ := hcs
    exact ⟨[], none, 0, rfl, fun h => absurd rfl h⟩
  · simp [Value.cells] at hcs
    obtain ⟨rfl, rfl, rfl⟩ := hcs
    have ce : Tryd.prog.cellsOf 23 = 5 := by kernel_rfl
    have each : ∀ i, i < len → ∃ q : Rt, W.cell? (ad.add (i * 5)) = some (.int .i64 q.ep) ∧ W.cell? (ad.add (i * 5 + 1)) = some (.int .i64 q.pg) ∧ W.cell? (ad.add (i * 5 + 2)) = some (.int .i64 q.ct) ∧ W.cell? (ad.add (i * 5 + 3)) = some (.int .i64 q.fr) ∧ W.cell? (ad.add (i * 5 + 4)) = some (.int .i64 q.nx) := by
      intro i hi
      obtain ⟨cs', h1, h2⟩ := hcell i (by rw [hm]; split <;> omega)
      rw [ce] at h1
      obtain ⟨_, hlen, hc⟩ := World.cells?_some h1
      obtain ⟨q, e, _⟩ := open_five hlen h2
      subst e
      have c0 := hc 0 (by omega)
      have c1 := hc 1 (by omega)
      have c2 := hc 2 (by omega)
      have c3 := hc 3 (by omega)
      have c4 := hc 4 (by omega)
      rw [add_add] at c0 c1 c2 c3 c4
      exact ⟨q, by simpa using c0, by simpa using c1, by simpa using c2, by simpa using c3, by simpa using c4⟩
    haveI : Inhabited Rt := ⟨rt0⟩
    obtain ⟨q, hq⟩ := choose_lt each
    have hg : ∀ j, j < len → ((List.range len).map q).getD j rt0 = q j := fun j hj => by simp [List.getD_eq_getElem?_getD, hj]
    refine ⟨(List.range len).map q, some ad, cap, by simp, fun hne => ?_⟩
    have hpos : 0 < len := by
      rcases Nat.eq_zero_or_pos len with e | e
      · subst e; exact absurd rfl hne
      · exact e
    obtain ⟨b, off, spot⟩ := ad
    have c0 := (hq 0 hpos).1
    have hspot : spot = none := by simpa [Addr.add] using World.cell?_spot c0
    subst hspot
    rw [add_plain] at c0
    refine ⟨b, off, rfl, cell_block c0, fun j hj => ?_⟩
    have hj2 : j < len := by simpa using hj
    rw [hg j hj2]
    have := hq j hj2
    simp only [add_plain] at this
    exact this

end Go.Proofs.YtalljfckjkbieaaDoor

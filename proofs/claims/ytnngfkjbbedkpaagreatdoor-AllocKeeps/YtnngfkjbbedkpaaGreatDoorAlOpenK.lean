/-
  Arguments opened: a slice of texts, out of what the form says of an argument.
-/
import Derived.Test.YtnngfkjbbedkpaaGreatDoorAlOpenZ
import Derived.Test.YtnngfkjbbedkpaaGreatDoorAlKeepsWalk
import Derived.Deep.Slices
namespace Go.Proofs.YtnngfkjbbedkpaaGreatDoor
open Go.Deep Go.ChangeShapes Go.WideShapes Go.ChangeAt Go.RowKit Go.ChangeMaps
set_option linter.unusedVariables false

variable {H : Type} {enc : TypeId × Value → H} {W : World} {base : Nat} {spare : Nat → Bool} {held : Bool} {fuel : Nat} {x : DataW H × List MemPlace}

set_option maxRecDepth 100000 in
theorem open_strsW {a : Option Addr} {len cap : Nat} (h : DataW.trod enc Tryz.prog W base spare held fuel 54 (Value.slice a len cap).cells.toList = some x) : ∃ l : List ByteArray, StrRowW W (.slice a len cap) l := by
  rcases open_slice Tryz.underlying54 h with ⟨hcs, _⟩ | ⟨ad, l, c, m, n, D, Pl, hcs, _, hl, _, hm, _, hcell⟩
  · simp [Value.cells] at hcs
    obtain ⟨rfl, rfl, rfl⟩ := hcs
    exact ⟨[], none, 0, rfl, fun h => absurd rfl h⟩
  · simp [Value.cells] at hcs
    obtain ⟨rfl, rfl, rfl⟩ := hcs
    have cs : Tryz.prog.cellsOf 9 = 1 := by kernel_rfl
    have each : ∀ i, i < len → ∃ q : ByteArray, W.cell? (ad.add i) = some (.string q) ∧ q.size ≤ maxLen := by
      intro i hi
      obtain ⟨cs', h1, h2⟩ := hcell i (by rw [hm]; split <;> omega)
      rw [cs] at h1
      obtain ⟨_, hlen, hc⟩ := World.cells?_some h1
      match cs', hlen with
      | [v0], _ =>
        obtain ⟨z3, e3, _, wf3⟩ := DataW.trod_string Tryz.underlying9 h2
        have c0 := hc 0 (by omega)
        rw [add_add] at c0
        simp only [List.cons.injEq, and_true] at e3
        subst e3
        exact ⟨z3, by simpa using c0, wf3⟩
    haveI : Inhabited ByteArray := ⟨ByteArray.empty⟩
    obtain ⟨q, hq⟩ := choose_lt each
    have hg : ∀ j, j < len → sAt ((List.range len).map q) j = q j := fun j hj => by simp [sAt, List.getD_eq_getElem?_getD, hj]
    refine ⟨(List.range len).map q, some ad, cap, by simp, fun hne => ?_⟩
    have hpos : 0 < len := by
      rcases Nat.eq_zero_or_pos len with e | e
      · subst e; exact absurd rfl hne
      · exact e
    obtain ⟨b, off, spot⟩ := ad
    have c0 := (hq 0 hpos).1
    have hspot : spot = none := by simpa [Addr.add] using World.cell?_spot c0
    subst hspot
    rw [add_plain] at c0
    refine ⟨b, off, rfl, block_of_cell c0, fun j hj => ?_⟩
    have hj2 : j < len := by simpa using hj
    rw [hg j hj2]
    obtain ⟨x0, x1⟩ := hq j hj2
    rw [add_plain] at x0
    exact ⟨x0, x1⟩

end Go.Proofs.YtnngfkjbbedkpaaGreatDoor

/-
  What Alloc and Drop do to a change, plain.
-/
import Derived.Test.YtnngfkjbbedkpaaGreatDoorAlWorks
namespace Go.Proofs.YtnngfkjbbedkpaaGreatDoor
open Go.RowKit
set_option linter.unusedVariables false

/-- A row of numbers, each one that a number may be. -/
def IntRowW (w : World) (v : Value) (l : List Int) : Prop := IntRow w v l ∧ ∀ k ∈ l, Wf k

theorem alloc_cases (x : TX) (room : Nat) : (fstB x.free = true ∧ (x.alloc room).1 = (fstN x.free, 0) ∧ (x.alloc room).2.pages = x.pages) ∨ (fstB x.free = false ∧ room ≤ x.pages ∧ (x.alloc room).1 = (0, 2) ∧ (x.alloc room).2.pages = x.pages) ∨ (fstB x.free = false ∧ x.pages < room ∧ (x.alloc room).1 = ((x.pages : Int), 0) ∧ (x.alloc room).2.pages = x.pages + 1) := by
  obtain ⟨fr, p, g, c⟩ := x
  cases fr with
  | cons r s => exact .inl ⟨rfl, rfl, rfl⟩
  | nil =>
    by_cases h : room ≤ p
    · exact .inr (.inl ⟨rfl, h, by simp [TX.alloc, h], by simp [TX.alloc, h]⟩)
    · exact .inr (.inr ⟨rfl, by simp only; omega, by simp [TX.alloc, h], by simp [TX.alloc, h]⟩)
theorem alloc_cnt (x : TX) (room : Nat) : (x.alloc room).2.cnt ≤ x.cnt + 1 := by
  obtain ⟨fr, p, g, c⟩ := x
  cases fr with
  | cons r s => exact Nat.le_refl _
  | nil =>
    by_cases h : room ≤ p
    · simp [TX.alloc, h]
    · simp [TX.alloc, h]
theorem drop_fresh (x : TX) (q : Int) : ((x.drop q).fresh q).isSome = false := by
  unfold TX.drop
  by_cases h : (x.fresh q).isSome = true
  · rw [if_pos h]; simp [delF]
  · rw [if_neg h]; simpa using h
theorem drop_has {x : TX} {room : Nat} (ok : x.Ok room) (hr : room ≤ 16384) (q : Int) (h : (x.fresh q).isSome = true) : hasB (x.drop q).free q = true := by
  unfold TX.drop
  rw [if_pos h]
  have h1 := ok.fs q h
  have h2 := ok.pr
  refine hasB_yes ((unL_in _ _ _).2 (.inr ((inR_one _ _).2 ?_)))
  simp only
  omega
theorem drop_cnt (x : TX) (q : Int) : (x.drop q).cnt = x.cnt := by
  unfold TX.drop
  split <;> rfl
theorem room_le {d : Dk} (h : d.Ok) : d.room ≤ 16384 := by have := h.len; unfold Dk.room; omega
theorem room_ge (d : Dk) : 2 ≤ d.room := by unfold Dk.room; omega

end Go.Proofs.YtnngfkjbbedkpaaGreatDoor

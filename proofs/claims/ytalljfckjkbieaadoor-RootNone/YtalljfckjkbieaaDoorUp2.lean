/-
  More of a disk that is up; numbers read out of an argument.
-/
import Derived.Test.YtalljfckjkbieaaDoorUp
import Derived.Deep.QuietTactic
import Derived.BigQuiet
namespace Go.Proofs.YtalljfckjkbieaaDoor
open Go.RowKit
set_option linter.unusedVariables false

theorem Up.now_sure {n : Nat} {d : Dk} (_h : Up n d) (hp : d.pend = []) (j : Nat) : d.now j = sAt d.sure j := by unfold Dk.now; rw [hp]; rfl
theorem Up.sureAt {n : Nat} {d : Dk} (h : Up n d) {j : Nat} (hj : j < n) : d.sureAt j = sAt d.sure j := by
  unfold Dk.sureAt; rw [if_pos (Dk.has_nat (by rw [h.sl]; exact hj))]; rfl
theorem Up.crash {n : Nat} {d : Dk} (h : Up n d) (keep : List Int) (torn cut : Int) : Up n (d.crash keep torn cut) := ⟨rfl, rfl, by rw [Dk.crash_length]; exact h.sl⟩

theorem IntRow.cells {w wr : World} {ao : Option Addr} {n cap : Nat} {l : List Int} {B : Nat} (h : IntRow w (.slice ao n cap) l) (hb : Below B w wr) (hB : w.heap.size ≤ B) {j : Nat} (hj : j < l.length) : ∃ r o, ao = some ⟨r, o, none⟩ ∧ r < wr.heap.size ∧ wr.cell? ⟨r, o + j, none⟩ = some (.int .i64 (l.getD j 0)) := by
  obtain ⟨ao', cap', e, h1⟩ := h.below hb hB
  cases e
  obtain ⟨r, o, e2, hr, hc⟩ := h1 (by intro e; rw [e] at hj; simp at hj)
  exact ⟨r, o, e2, hr, hc j hj⟩
theorem IntRow.cells2 {w wr : World} {r o n cap : Nat} {l : List Int} {B : Nat} (h : IntRow w (.slice (some ⟨r, o, none⟩) n cap) l) (hb : Below B w wr) (hB : w.heap.size ≤ B) {j : Nat} (hj : j < l.length) : wr.cell? ⟨r, o + j, none⟩ = some (.int .i64 (l.getD j 0)) := by
  obtain ⟨r', o', e, _, hc⟩ := h.cells hb hB hj
  cases e
  exact hc

theorem Sep.drewN {B : Nat} {w0 w : World} {l : List Res} (h : Sep B w0 w l) (n : Nat) : Sep B w0 (w.drewN n) l := h.below ⟨rfl, rfl, rfl, Nat.le_refl _, fun _ _ => rfl⟩
theorem was_snoc {d : Dk} {t : Nat} {was : List ByteArray} (h1 : was.length = t) (h2 : ∀ j, j < t → sAt d.sure j = sAt was j) : (was ++ [sAt d.sure t]).length = t + 1 ∧ ∀ j, j < t + 1 → sAt d.sure j = sAt (was ++ [sAt d.sure t]) j := by
  refine ⟨by simp [h1], fun j hj => ?_⟩
  rcases Nat.lt_or_eq_of_le (Nat.le_of_lt_succ hj) with hj2 | hj2
  · rw [h2 j hj2]; unfold sAt
    rw [List.getD_eq_getElem?_getD, List.getD_eq_getElem?_getD, List.getElem?_append_left (by omega)]
  · subst hj2; subst h1; simp [sAt, List.getD_eq_getElem?_getD]
theorem now_snoc_was {d : Dk} {t : Nat} {was : List ByteArray} (h1 : was.length = t) (h2 : ∀ j, j < t → d.now j = sAt was j) : (was ++ [d.now t]).length = t + 1 ∧ ∀ j, j < t + 1 → d.now j = sAt (was ++ [d.now t]) j := by
  refine ⟨by simp [h1], fun j hj => ?_⟩
  rcases Nat.lt_or_eq_of_le (Nat.le_of_lt_succ hj) with hj2 | hj2
  · rw [h2 j hj2]; unfold sAt
    rw [List.getD_eq_getElem?_getD, List.getD_eq_getElem?_getD, List.getElem?_append_left (by omega)]
  · subst hj2; subst h1; simp [sAt, List.getD_eq_getElem?_getD]

end Go.Proofs.YtalljfckjkbieaaDoor

/-
  A disk that is up, and rows of texts beside it.
-/
import Derived.Test.YtalljfckjkbieaaDoorSep
import Derived.Deep.RegionLaw
namespace Go.Proofs.YtalljfckjkbieaaDoor
open Go.RowKit
set_option linter.unusedVariables false

/-- The power is there, no Break stands, n sectors. -/
structure Up (n : Nat) (d : Dk) : Prop where
  dn : d.down = false
  br : d.brk = none
  sl : d.sure.length = n
theorem Up.new (n : Nat) (h : n ≤ 16384) : Up n (Dk.new n) := ⟨rfl, rfl, by simp [Dk.new]; omega⟩
theorem Up.get {n : Nat} {d : Dk} (h : Up n d) (j : Nat) (hj : j < n) : (d.get j).1 = (d.now j, 0) ∧ Up n (d.get j).2 ∧ (∀ i, (d.get j).2.now i = d.now i) ∧ (d.get j).2.pend = d.pend ∧ (d.get j).2.sure = d.sure := by
  rw [Dk.get_ok h.dn (Dk.has_nat (by rw [h.sl]; exact hj))]
  exact ⟨rfl, ⟨h.dn, h.br, h.sl⟩, fun _ => rfl, rfl, rfl⟩
/-- A write to a disk that is up: it is OK and reads so then, or it errs and nothing has turned. -/
theorem Up.put {n : Nat} {d : Dk} (h : Up n d) (i : Int) (s : ByteArray) :
    ((d.put i s).1 = 0 ∧ 0 ≤ i ∧ i < n ∧ s.size = 256 ∧ Up n (d.put i s).2 ∧ (d.put i s).2.pend = d.pend ++ [(i.toNat, s)] ∧ (d.put i s).2.sure = d.sure ∧ (d.put i s).2.reads = d.reads ∧ (d.put i s).2.writes = wrap64 (d.writes + 1)) ∨
    ((d.put i s).1 ≠ 0 ∧ (d.put i s).2 = d ∧ ¬ (0 ≤ i ∧ i < n ∧ s.size = 256)) := by
  by_cases hi : d.has i = true
  · by_cases hs : s.size = 256
    · have e := Dk.put_ok h.dn hi hs
      unfold Dk.tick at e
      rw [show ({ d with pend := d.pend ++ [(i.toNat, s)], writes := wrap64 (d.writes + 1) } : Dk).brk = none from h.br] at e
      rw [e]
      have := of_decide_eq_true hi
      exact .inl ⟨rfl, this.1, by rw [← h.sl]; exact this.2, hs, ⟨h.dn, rfl, h.sl⟩, rfl, rfl, rfl, rfl⟩
    · rw [Dk.put_arg h.dn hi hs]
      exact .inr ⟨by show (1 : Int) ≠ 0; decide, rfl, fun h => hs h.2.2⟩
  · rw [Dk.put_range h.dn (by simpa using hi)]
    refine .inr ⟨by show (40 : Int) ≠ 0; decide, rfl, fun h2 => hi ?_⟩
    unfold Dk.has
    exact decide_eq_true ⟨h2.1, by rw [h.sl]; exact h2.2.1⟩
theorem now_snoc {d d' : Dk} {i : Nat} {s : ByteArray} (hp : d'.pend = d.pend ++ [(i, s)]) (hs : d'.sure = d.sure) (j : Nat) : d'.now j = if i = j then s else d.now j := by
  unfold Dk.now; rw [hp, hs, nowTo_snoc]
theorem Up.sync {n : Nat} {d : Dk} (h : Up n d) (ok : d.Ok) : d.sync.1 = 0 ∧ Up n d.sync.2 ∧ (∀ j, d.sync.2.now j = d.now j) ∧ d.sync.2.pend = [] ∧ ∀ j, sAt d.sync.2.sure j = d.now j := by
  rw [Dk.sync_ok h.dn]
  have e : ∀ j, sAt (syncTo d.pend d.sure d.pend.length) j = d.now j := fun j => syncTo_now ok j _ (Nat.le_refl _)
  exact ⟨rfl, ⟨h.dn, h.br, by show (syncTo _ _ _).length = n; rw [syncTo_length]; exact h.sl⟩, e, rfl, e⟩

theorem Sep.lt {B : Nat} {w0 w : World} {b : Nat} {d : Dk} {l : List Res} (h : Sep B w0 w (Disk b d :: l)) : b < w.heap.size := by
  obtain ⟨X, ⟨m, g, pv, br, lf, hM, _⟩, _⟩ := h.mine; exact hM.bl
theorem Sep.str_at {B : Nat} {w0 w : World} {r c : Nat} {l : List Res} {want : List ByteArray} {n i : Nat} (h : Sep B w0 w (RowR 9 (.slice (some ⟨r, 0, none⟩) n c) (want.map .string) :: l)) (hi : i < want.length) : w.cell? ⟨r, i, none⟩ = some (.string (sAt want i)) := by
  obtain ⟨r', c', e, _, _, hc, _⟩ := h.cell (j := i) (by simpa using hi)
  cases e
  rw [hc]
  simp [sAt, List.getD_eq_getElem?_getD, hi]
theorem Sep.str_fz {B : Nat} {w0 w : World} {r c : Nat} {l : List Res} {want : List ByteArray} {n i : Nat} (h : Sep B w0 w (RowR 9 (.slice (some ⟨r, 0, none⟩) n c) (want.map .string) :: l)) (hi : i < want.length) : w.frozen? ⟨r, i, none⟩ = false := by
  obtain ⟨r', c', e, _, _, _, hf⟩ := h.cell (j := i) (by simpa using hi)
  cases e
  exact hf
theorem Sep.str_set {B : Nat} {w0 w : World} {r c : Nat} {l : List Res} {want : List ByteArray} {n i : Nat} {s : ByteArray} (h : Sep B w0 w (RowR 9 (.slice (some ⟨r, 0, none⟩) n c) (want.map .string) :: l)) (hi : i < want.length) (hn : want.length = n) : Sep B w0 (w.setCell ⟨r, i, none⟩ (.string s)) (RowR 9 (.slice (some ⟨r, 0, none⟩) n c) ((want.set i s).map .string) :: l) := by
  subst hn
  have e : want.length = (want.map Value.string).length := by simp
  rw [e] at h ⊢
  rw [List.map_set]
  exact h.store i (by simpa using hi) _

end Go.Proofs.YtalljfckjkbieaaDoor

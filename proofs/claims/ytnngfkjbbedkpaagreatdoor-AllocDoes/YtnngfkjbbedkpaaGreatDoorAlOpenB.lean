/-
  Arguments opened: a slice of acts, out of what the form says of an argument.
-/
import Derived.Test.YtnngfkjbbedkpaaGreatDoorAlOpenZ
import Derived.Test.YtnngfkjbbedkpaaGreatDoorAlAct
import Derived.Deep.Slices
namespace Go.Proofs.YtnngfkjbbedkpaaGreatDoor
open Go.Deep Go.ChangeShapes Go.WideShapes Go.ChangeAt Go.RowKit Go.ChangeMaps
set_option linter.unusedVariables false

variable {H : Type} {enc : TypeId × Value → H} {W : World} {base : Nat} {spare : Nat → Bool} {held : Bool} {fuel : Nat} {x : DataW H × List MemPlace}

theorem trod_struct4 {P : Program} {w : World} {t : TypeId} {f0 f1 f2 f3 : Field} {fuel : Nat} {cs : List Value} {x : DataW H × List MemPlace} (ht : P.underlying t = some (.struct #[f0, f1, f2, f3])) (h : DataW.trod enc P w base spare held fuel t cs = some x) :
    ∃ y0 y1 y2 y3 n, cs.length = P.cellsOf t ∧ DataW.trod enc P w base spare held n f0.type ((cs.drop f0.offset).take (P.cellsOf f0.type)) = some y0 ∧
      DataW.trod enc P w base spare held n f1.type ((cs.drop f1.offset).take (P.cellsOf f1.type)) = some y1 ∧ DataW.trod enc P w base spare held n f2.type ((cs.drop f2.offset).take (P.cellsOf f2.type)) = some y2 ∧
      DataW.trod enc P w base spare held n f3.type ((cs.drop f3.offset).take (P.cellsOf f3.type)) = some y3 := by
  obtain ⟨xs, n, _, rfl, hl, hlen, hf⟩ := DataW.trod_struct ht h
  match xs, hlen with
  | [y0, y1, y2, y3], _ => exact ⟨y0, y1, y2, y3, n, hl, by simpa using hf 0 f0 rfl, by simpa using hf 1 f1 rfl, by simpa using hf 2 f2 rfl, by simpa using hf 3 f3 rfl⟩

set_option maxRecDepth 100000 in
theorem open_acts10 {a : Option Addr} {len cap : Nat} (h : DataW.trod enc Tryz.prog W base spare held fuel 23 (Value.slice a len cap).cells.toList = some x) : ∃ l : List A10, ActR10 W (.slice a len cap) l := by
  rcases open_slice Tryz.underlying23 h with ⟨hcs, _⟩ | ⟨ad, l, c, m, n, D, Pl, hcs, _, hl, _, hm, _, hcell⟩
  · simp [Value.cells] at hcs
    obtain ⟨rfl, rfl, rfl⟩ := hcs
    exact ⟨[], ⟨none, 0, rfl, fun h => absurd rfl h⟩, fun a ha => by cases ha⟩
  · simp [Value.cells] at hcs
    obtain ⟨rfl, rfl, rfl⟩ := hcs
    have ce : Tryz.prog.cellsOf 40 = 4 := by kernel_rfl
    have ci : Tryz.prog.cellsOf 3 = 1 := by kernel_rfl
    have cu : Tryz.prog.cellsOf 38 = 1 := by kernel_rfl
    have cs : Tryz.prog.cellsOf 9 = 1 := by kernel_rfl
    have each : ∀ i, i < len → ∃ q : A10, W.cell? (ad.add (i * 4)) = some (.int .i64 q.k) ∧ W.cell? (ad.add (i * 4 + 1)) = some (.int .i64 q.i) ∧ W.cell? (ad.add (i * 4 + 2)) = some (.int .u8 (q.kd.toNat : Int)) ∧ W.cell? (ad.add (i * 4 + 3)) = some (.string q.s) ∧ q.s.size ≤ maxLen ∧ Wf q.i := by
      intro i hi
      obtain ⟨cs', h1, h2⟩ := hcell i (by rw [hm]; split <;> omega)
      rw [ce] at h1
      obtain ⟨_, hlen, hc⟩ := World.cells?_some h1
      obtain ⟨y0, y1, y2, y3, k, _, g0, g1, g2, g3⟩ := trod_struct4 Tryz.underlying40 h2
      match cs', hlen with
      | [v0, v1, v2, v3], _ =>
        simp [ci, cu, cs] at g0 g1 g2 g3
        obtain ⟨z0, e0, _⟩ := DataW.trod_int Tryz.underlying3 g0
        obtain ⟨z1, e1, _, wf1⟩ := DataW.trod_int Tryz.underlying3 g1
        obtain ⟨z2, e2, _, wf2⟩ := DataW.trod_int Tryz.underlying38 g2
        obtain ⟨z3, e3, _, wf3⟩ := DataW.trod_string Tryz.underlying9 g3
        have c0 := hc 0 (by omega)
        have c1 := hc 1 (by omega)
        have c2 := hc 2 (by omega)
        have c3 := hc 3 (by omega)
        rw [add_add] at c0 c1 c2 c3
        simp only [List.cons.injEq, and_true] at e0 e1 e2 e3
        subst e0 e1 e2 e3
        have b1 : Wf z1 := by
          have h1 := of_decide_eq_true (Bool.and_eq_true_iff.1 wf1).1
          have h2 := of_decide_eq_true (Bool.and_eq_true_iff.1 wf1).2
          rw [show IntKind.min .i64 = -9223372036854775808 by decide] at h1
          rw [show IntKind.max .i64 = 9223372036854775807 by decide] at h2
          exact ⟨h1, h2⟩
        have b2 : 0 ≤ z2 ∧ z2 ≤ 255 := by
          have h := Bool.and_eq_true_iff.1 wf2
          have h1 := of_decide_eq_true h.1
          have h2 := of_decide_eq_true h.2
          rw [show IntKind.min .u8 = 0 by decide] at h1
          rw [show IntKind.max .u8 = 255 by decide] at h2
          omega
        obtain ⟨kd, rfl⟩ : ∃ kd : UInt8, z2 = (kd.toNat : Int) := ⟨UInt8.ofNat z2.toNat, by simp; omega⟩
        exact ⟨⟨z0, z1, kd, z3⟩, by simpa using c0, by simpa using c1, by simpa using c2, by simpa using c3, wf3, b1⟩
    haveI : Inhabited A10 := ⟨a10⟩
    obtain ⟨q, hq⟩ := choose_lt each
    have hg : ∀ j, j < len → ((List.range len).map q).getD j a10 = q j := fun j hj => by simp [List.getD_eq_getElem?_getD, hj]
    refine ⟨(List.range len).map q, ⟨some ad, cap, by simp, fun hne => ?_⟩, fun a ha => ?_⟩
    · have hpos : 0 < len := by
        rcases Nat.eq_zero_or_pos len with e | e
        · subst e; exact absurd rfl hne
        · exact e
      obtain ⟨b, off, spot⟩ := ad
      have c0 := (hq 0 hpos).1
      have hspot : spot = none := by simpa [Addr.add] using World.cell?_spot c0
      subst hspot
      rw [add_plain] at c0
      refine ⟨b, off, rfl, block_of_cell c0, fun j hj => ?_⟩
      have hj2 : j < len := by simpa using hj
      rw [hg j hj2]
      obtain ⟨x0, x1, x2, x3, _⟩ := hq j hj2
      simp only [add_plain] at x0 x1 x2 x3
      exact ⟨x0, x1, x2, x3⟩
    · obtain ⟨j, hj, rfl⟩ := List.mem_map.1 ha
      exact (hq j (by simpa using hj)).2.2.2.2

end Go.Proofs.YtnngfkjbbedkpaaGreatDoor

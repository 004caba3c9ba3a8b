/-
  Arguments opened: a slice of acts with slices in them.
-/
import Derived.Test.YtnjnggjbeklmpaaGreatDoorChAct
import Derived.Test.YtnjnggjbeklmpaaGreatDoorChOpen
namespace Go.Proofs.YtnjnggjbeklmpaaGreatDoor
open Go.Deep Go.ChangeShapes Go.WideShapes Go.ChangeAt Go.RowKit Go.ChangeMaps Go.Shelf Go.Lib Go.Sort
set_option linter.unusedVariables false

variable {H : Type} {enc : TypeId × Value → H} {W : World} {base : Nat} {spare : Nat → Bool} {held : Bool} {fuel : Nat} {x : DataW H × List MemPlace}

theorem trod_struct5 {P : Program} {w : World} {t : TypeId} {f0 f1 f2 f3 f4 : Field} {fuel : Nat} {cs : List Value} {x : DataW H × List MemPlace} (ht : P.underlying t = some (.struct #[f0, f1, f2, f3, f4])) (h : DataW.trod enc P w base spare held fuel t cs = some x) :
    ∃ y0 y1 y2 y3 y4 n, cs.length = P.cellsOf t ∧ DataW.trod enc P w base spare held n f0.type ((cs.drop f0.offset).take (P.cellsOf f0.type)) = some y0 ∧
      DataW.trod enc P w base spare held n f1.type ((cs.drop f1.offset).take (P.cellsOf f1.type)) = some y1 ∧ DataW.trod enc P w base spare held n f2.type ((cs.drop f2.offset).take (P.cellsOf f2.type)) = some y2 ∧
      DataW.trod enc P w base spare held n f3.type ((cs.drop f3.offset).take (P.cellsOf f3.type)) = some y3 ∧ DataW.trod enc P w base spare held n f4.type ((cs.drop f4.offset).take (P.cellsOf f4.type)) = some y4 := by
  obtain ⟨xs, n, _, rfl, hl, hlen, hf⟩ := DataW.trod_struct ht h
  match xs, hlen with
  | [y0, y1, y2, y3, y4], _ => exact ⟨y0, y1, y2, y3, y4, n, hl, by simpa using hf 0 f0 rfl, by simpa using hf 1 f1 rfl, by simpa using hf 2 f2 rfl, by simpa using hf 3 f3 rfl, by simpa using hf 4 f4 rfl⟩

set_option maxRecDepth 100000 in
theorem open_runs1 {cs : List Value} (h : DataW.trod enc Tryz.prog W base spare held fuel 33 cs = some x) : ∃ kv l, cs = [kv] ∧ Row encP 2 W kv l := by
  have h' := h
  rcases open_slice_pairs Tryz.underlying33 Tryz.underlying51 (by kernel_rfl) rfl rfl (by kernel_rfl) (by kernel_rfl) h with ⟨hcs, _⟩ | ⟨ad, l, c, m, n, V0, V1, D0, D1, P0, P1, hcs, _⟩
  · subst hcs
    obtain ⟨l, hr⟩ := open_pairs (a := none) (len := 0) (cap := 0) (by simpa [Value.cells] using h')
    exact ⟨_, l, rfl, hr⟩
  · subst hcs
    obtain ⟨l', hr⟩ := open_pairs (a := some ad) (len := l) (cap := c) (by simpa [Value.cells] using h')
    exact ⟨_, l', rfl, hr⟩

set_option maxRecDepth 100000 in
theorem open_acts9 {a : Option Addr} {len cap : Nat} (h : DataW.trod enc Tryz.prog W base spare held fuel 22 (Value.slice a len cap).cells.toList = some x) : ∃ l : List C9, ActsR9 W (.slice a len cap) l := by
  rcases open_slice Tryz.underlying22 h with ⟨hcs, _⟩ | ⟨ad, l, c, m, n, D, Pl, hcs, _, hl, _, hm, _, hcell⟩
  · simp [Value.cells] at hcs
    obtain ⟨rfl, rfl, rfl⟩ := hcs
    exact ⟨[], ⟨none, 0, rfl, fun h => absurd rfl h⟩, fun a ha => by cases ha⟩
  · simp [Value.cells] at hcs
    obtain ⟨rfl, rfl, rfl⟩ := hcs
    have ce : Tryz.prog.cellsOf 36 = 5 := by kernel_rfl
    have ci : Tryz.prog.cellsOf 3 = 1 := by kernel_rfl
    have cu : Tryz.prog.cellsOf 9 = 1 := by kernel_rfl
    have cs : Tryz.prog.cellsOf 34 = 1 := by kernel_rfl
    have cr : Tryz.prog.cellsOf 33 = 1 := by kernel_rfl
    have each : ∀ i, i < len → ∃ q : C9, W.cell? (ad.add (i * 5)) = some (.int .i64 q.k) ∧ W.cell? (ad.add (i * 5 + 1)) = some q.lv ∧ W.cell? (ad.add (i * 5 + 2)) = some q.iv ∧ W.cell? (ad.add (i * 5 + 3)) = some (.int .i64 q.h) ∧ W.cell? (ad.add (i * 5 + 4)) = some (.string q.s) ∧ Row encP 2 W q.lv q.l ∧ IntRow W q.iv q.ids ∧ q.s.size ≤ maxLen ∧ q.h ≤ 9223372036854775807 := by
      intro i hi
      obtain ⟨cs', h1, h2⟩ := hcell i (by rw [hm]; split <;> omega)
      rw [ce] at h1
      obtain ⟨_, hlen, hc⟩ := World.cells?_some h1
      obtain ⟨y0, y1, y2, y3, y4, k, _, g0, g1, g2, g3, g4⟩ := trod_struct5 Tryz.underlying36 h2
      match cs', hlen with
      | [v0, v1, v2, v3, v4], _ =>
        simp [ci, cu, cs, cr] at g0 g1 g2 g3 g4
        obtain ⟨z0, e0, _⟩ := DataW.trod_int Tryz.underlying3 g0
        obtain ⟨z1, l1, e1, r1⟩ := open_runs1 g1
        obtain ⟨z2, l2, e2, r2⟩ := open_introw g2
        obtain ⟨z3, e3, _, wf3⟩ := DataW.trod_int Tryz.underlying3 g3
        obtain ⟨z4, e4, _, wf4⟩ := DataW.trod_string Tryz.underlying9 g4
        have c0 := hc 0 (by omega)
        have c1 := hc 1 (by omega)
        have c2 := hc 2 (by omega)
        have c3 := hc 3 (by omega)
        have c4 := hc 4 (by omega)
        rw [add_add] at c0 c1 c2 c3 c4
        simp only [List.cons.injEq, and_true] at e0 e1 e2 e3 e4
        subst e0 e1 e2 e3 e4
        have b3 : z3 ≤ 9223372036854775807 := by
          have h := (Bool.and_eq_true_iff.1 wf3).2
          have h2 := of_decide_eq_true h
          rw [show IntKind.max .i64 = 9223372036854775807 by decide] at h2
          exact h2
        exact ⟨⟨z0, v1, l1, v2, l2, z3, z4⟩, by simpa using c0, by simpa using c1, by simpa using c2, by simpa using c3, by simpa using c4, r1, r2, wf4, b3⟩
    haveI : Inhabited C9 := ⟨c9⟩
    obtain ⟨q, hq⟩ := choose_lt each
    have hg : ∀ j, j < len → ((List.range len).map q).getD j c9 = q j := fun j hj => by simp [List.getD_eq_getElem?_getD, hj]
    refine ⟨(List.range len).map q, ⟨some ad, cap, by simp, fun hne => ?_⟩, fun a ha => ?_⟩
    · have hpos : 0 < len := by
        rcases Nat.eq_zero_or_pos len with e | e
        · subst e; exact absurd rfl hne
        · exact e
      obtain ⟨b, off, spot⟩ := ad
      have c0 := (hq 0 hpos).1
      have hspot : spot = none := by simpa [Addr.add] using World.cell?_spot c0
      subst hspot
      rw [add_plain] at c0
      refine ⟨b, off, rfl, block_of_cell c0, fun j hj => ?_⟩
      have hj2 : j < len := by simpa using hj
      rw [hg j hj2]
      obtain ⟨x0, x1, x2, x3, x4, _⟩ := hq j hj2
      simp only [add_plain] at x0 x1 x2 x3 x4
      exact ⟨x0, x1, x2, x3, x4⟩
    · obtain ⟨j, hj, rfl⟩ := List.mem_map.1 ha
      exact (hq j (by simpa using hj)).2.2.2.2.2

end Go.Proofs.YtnjnggjbeklmpaaGreatDoor

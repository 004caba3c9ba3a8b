/-
  Arguments opened: a slice of numbers, a slice of acts, out of what the form says of an argument.
-/
import Derived.Test.YtnmmikgmhoecpaaWorks
import Derived.ProofKit
import Derived.OpenShut
import Derived.ChangeOld
import Derived.Below
import Derived.ChangeSlices
import Derived.Deep.Slices
namespace Go.Proofs.Ytnmmikgmhoecpaa
open Go.Deep Go.ChangeShapes Go.WideShapes Go.ChangeAt Go.RowKit Go.ChangeMaps
set_option linter.unusedVariables false

theorem block_of_cell {W : World} {b o : Nat} {v : Value} (h : W.cell? ⟨b, o, none⟩ = some v) : b < W.heap.size := by
  rcases Nat.lt_or_ge b W.heap.size with hb | hb
  · exact hb
  · have e : W.heap[b]? = none := Array.getElem?_eq_none hb
    simp [World.cell?, e] at h

variable {H : Type} {enc : TypeId × Value → H} {W : World} {base : Nat} {spare : Nat → Bool} {held : Bool} {fuel : Nat} {x : DataW H × List MemPlace}

theorem open_introw {cs : List Value} (h : DataW.trod enc Try.prog W base spare held fuel 29 cs = some x) : ∃ kv l, cs = [kv] ∧ IntRow W kv l := by
  rcases open_ints Try.underlying29 Try.underlying3 (by kernel_rfl) h with ⟨rfl, _⟩ | ⟨a, len, cap, zs, rfl, _, hl, _, hz, _, hc, _⟩
  · exact ⟨_, [], rfl, none, 0, rfl, fun h => absurd rfl h⟩
  · have hlz : len ≤ zs.length := by rw [hz]; split <;> omega
    refine ⟨_, zs.take len, rfl, some a, cap, by simp [Nat.min_eq_left hlz], fun hne => ?_⟩
    have hpos : 0 < len := by
      rcases Nat.eq_zero_or_pos len with e | e
      · subst e; exact absurd rfl hne
      · exact e
    obtain ⟨b, off, spot⟩ := a
    have c0 := hc 0 (by omega)
    have hspot : spot = none := by simpa [Addr.add] using World.cell?_spot c0
    subst hspot
    rw [add_plain] at c0
    refine ⟨b, off, rfl, block_of_cell c0, fun j hj => ?_⟩
    have hj2 : j < len := by simp at hj; omega
    have := hc j (by omega)
    rw [add_plain] at this
    rw [this]
    simp [List.getD_eq_getElem?_getD, List.getElem?_take_of_lt hj2]

theorem trod_struct6 {P : Program} {w : World} {t : TypeId} {f0 f1 f2 f3 f4 f5 : Field} {fuel : Nat} {cs : List Value} {x : DataW H × List MemPlace} (ht : P.underlying t = some (.struct #[f0, f1, f2, f3, f4, f5])) (h : DataW.trod enc P w base spare held fuel t cs = some x) :
    ∃ y0 y1 y2 y3 y4 y5 n, cs.length = P.cellsOf t ∧ DataW.trod enc P w base spare held n f0.type ((cs.drop f0.offset).take (P.cellsOf f0.type)) = some y0 ∧
      DataW.trod enc P w base spare held n f1.type ((cs.drop f1.offset).take (P.cellsOf f1.type)) = some y1 ∧ DataW.trod enc P w base spare held n f2.type ((cs.drop f2.offset).take (P.cellsOf f2.type)) = some y2 ∧
      DataW.trod enc P w base spare held n f3.type ((cs.drop f3.offset).take (P.cellsOf f3.type)) = some y3 ∧ DataW.trod enc P w base spare held n f4.type ((cs.drop f4.offset).take (P.cellsOf f4.type)) = some y4 ∧
      DataW.trod enc P w base spare held n f5.type ((cs.drop f5.offset).take (P.cellsOf f5.type)) = some y5 := by
  obtain ⟨xs, n, _, rfl, hl, hlen, hf⟩ := DataW.trod_struct ht h
  match xs, hlen with
  | [y0, y1, y2, y3, y4, y5], _ => exact ⟨y0, y1, y2, y3, y4, y5, n, hl, by simpa using hf 0 f0 rfl, by simpa using hf 1 f1 rfl, by simpa using hf 2 f2 rfl, by simpa using hf 3 f3 rfl, by simpa using hf 4 f4 rfl, by simpa using hf 5 f5 rfl⟩

set_option maxRecDepth 100000 in
theorem open_acts {a : Option Addr} {len cap : Nat} (h : DataW.trod enc Try.prog W base spare held fuel 22 (Value.slice a len cap).cells.toList = some x) : ∃ l : List A1, ActRow W (.slice a len cap) l := by
  rcases open_slice Try.underlying22 h with ⟨hcs, _⟩ | ⟨ad, l, c, m, n, D, Pl, hcs, _, hl, _, hm, _, hcell⟩
  · simp [Value.cells] at hcs
    obtain ⟨rfl, rfl, rfl⟩ := hcs
    exact ⟨[], ⟨none, 0, rfl, fun h => absurd rfl h⟩, fun a ha => by cases ha⟩
  · simp [Value.cells] at hcs
    obtain ⟨rfl, rfl, rfl⟩ := hcs
    have ce : Try.prog.cellsOf 31 = 6 := by kernel_rfl
    have ci : Try.prog.cellsOf 3 = 1 := by kernel_rfl
    have cu : Try.prog.cellsOf 5 = 1 := by kernel_rfl
    have cs : Try.prog.cellsOf 29 = 1 := by kernel_rfl
    have each : ∀ i, i < len → ∃ q : A1, W.cell? (ad.add (i * 6)) = some (.int .i64 q.k) ∧ W.cell? (ad.add (i * 6 + 1)) = some (.int .i64 q.i) ∧ W.cell? (ad.add (i * 6 + 2)) = some (.int .u8 q.b) ∧ W.cell? (ad.add (i * 6 + 3)) = some q.kv ∧ W.cell? (ad.add (i * 6 + 4)) = some (.int .i64 q.torn) ∧ W.cell? (ad.add (i * 6 + 5)) = some (.int .i64 q.cut) ∧ IntRow W q.kv q.keep ∧ q.b < 256 ∧ q.i ≤ 9223372036854775807 := by
      intro i hi
      obtain ⟨cs', h1, h2⟩ := hcell i (by rw [hm]; split <;> omega)
      rw [ce] at h1
      obtain ⟨_, hlen, hc⟩ := World.cells?_some h1
      obtain ⟨y0, y1, y2, y3, y4, y5, k, _, g0, g1, g2, g3, g4, g5⟩ := trod_struct6 Try.underlying31 h2
      match cs', hlen with
      | [v0, v1, v2, v3, v4, v5], _ =>
        simp [ci, cu, cs] at g0 g1 g2 g3 g4 g5
        obtain ⟨z0, e0, _⟩ := DataW.trod_int Try.underlying3 g0
        obtain ⟨z1, e1, _, wf1⟩ := DataW.trod_int Try.underlying3 g1
        obtain ⟨z2, e2, _, wf2⟩ := DataW.trod_int Try.underlying5 g2
        obtain ⟨kv, kl, e3, hk⟩ := open_introw g3
        obtain ⟨z4, e4, _⟩ := DataW.trod_int Try.underlying3 g4
        obtain ⟨z5, e5, _⟩ := DataW.trod_int Try.underlying3 g5
        have c0 := hc 0 (by omega)
        have c1 := hc 1 (by omega)
        have c2 := hc 2 (by omega)
        have c3 := hc 3 (by omega)
        have c4 := hc 4 (by omega)
        have c5 := hc 5 (by omega)
        rw [add_add] at c0 c1 c2 c3 c4 c5
        simp only [List.cons.injEq, and_true] at e0 e1 e2 e3 e4 e5
        subst e0 e1 e2 e3 e4 e5
        have b1 : z1 ≤ 9223372036854775807 := by
          have h := (Bool.and_eq_true_iff.1 wf1).2
          have h2 := of_decide_eq_true h
          rw [show IntKind.max .i64 = 9223372036854775807 by decide] at h2
          exact h2
        have b2 : 0 ≤ z2 ∧ z2 < 256 := by
          have h := Bool.and_eq_true_iff.1 wf2
          have h1 := of_decide_eq_true h.1
          have h2 := of_decide_eq_true h.2
          rw [show IntKind.min .u8 = 0 by decide] at h1
          rw [show IntKind.max .u8 = 255 by decide] at h2
          omega
        refine ⟨⟨z0, z1, z2.toNat, v3, kl, z4, z5⟩, by simpa using c0, by simpa using c1, ?_, by simpa using c3, by simpa using c4, by simpa using c5, hk, ?_, b1⟩
        · rw [show ((z2.toNat : Nat) : Int) = z2 by omega]; simpa using c2
        · show z2.toNat < 256; omega
    haveI : Inhabited A1 := ⟨a0⟩
    obtain ⟨q, hq⟩ := choose_lt each
    have hg : ∀ j, j < len → ((List.range len).map q).getD j a0 = q j := fun j hj => by simp [List.getD_eq_getElem?_getD, hj]
    refine ⟨(List.range len).map q, ⟨some ad, cap, by simp, fun hne => ?_⟩, fun a ha => ?_⟩
    · have hpos : 0 < len := by
        rcases Nat.eq_zero_or_pos len with e | e
        · subst e; exact absurd rfl hne
        · exact e
      obtain ⟨b, off, spot⟩ := ad
      have c0 := (hq 0 hpos).1
      have hspot : spot = none := by simpa [Addr.add] using World.cell?_spot c0
      subst hspot
      rw [add_plain] at c0
      refine ⟨b, off, rfl, block_of_cell c0, fun j hj => ?_⟩
      have hj2 : j < len := by simpa using hj
      rw [hg j hj2]
      obtain ⟨x0, x1, x2, x3, x4, x5, _⟩ := hq j hj2
      simp only [add_plain] at x0 x1 x2 x3 x4 x5
      exact ⟨x0, x1, x2, x3, x4, x5⟩
    · obtain ⟨j, hj, rfl⟩ := List.mem_map.1 ha
      exact (hq j (by simpa using hj)).2.2.2.2.2.2

end Go.Proofs.Ytnmmikgmhoecpaa

/-
  Arguments opened: a node, a slice of numbers, a slice of texts, out of what the form says of an argument.
-/
import Derived.Test.YtmamnlphhiaeoaaNdMem
import Derived.Test.YtmamnlphhiaeoaaEnOpen
import Derived.ChangeSlices
import Derived.Deep.Slices
namespace Go.Proofs.Ytmamnlphhiaeoaa
open Go.Deep Go.ChangeShapes Go.WideShapes Go.ChangeAt Go.RowKit Go.ChangeMaps Go.Shelf Go.Lib Go.Sort
set_option linter.unusedVariables false

theorem row_of_cells {α : Type} [Inhabited α] {enc : α → List Value} {f : α → Value} (he : ∀ x, enc x = [f x]) {W : World} {a : Addr} {len cap : Nat} {q : Nat → α} (hl : len ≤ cap) (hc : ∀ i, i < len → W.cell? (a.add i) = some (f (q i))) :
    Row enc 1 W (.slice (some a) len cap) ((List.range len).map q) := by
  refine ⟨some a, cap, by simp, by simpa using hl, (fun h => by cases h), fun hne => ?_⟩
  have hpos : 0 < len := by
    rcases Nat.eq_zero_or_pos len with h | h
    · subst h; exact absurd rfl hne
    · exact h
  obtain ⟨b, off, spot⟩ := a
  have hspot : spot = none := by simpa [Addr.add] using World.cell?_spot (hc 0 hpos)
  subst hspot
  have c00 := hc 0 hpos
  rw [add_plain] at c00
  refine ⟨b, off, rfl, block_of_cell c00, fun t ht => ?_⟩
  have ht' : t < len := by simpa using ht
  have h0 := hc t ht'
  rw [add_plain] at h0
  rw [h0, get_flatK _ _ _ _ (by simpa using ht'), Nat.div_one, Nat.mod_one, getElem!_pos _ t (by simpa using ht')]
  simp [he]

variable {H : Type} {enc : TypeId × Value → H} {W : World} {base : Nat} {spare : Nat → Bool} {held : Bool} {fuel : Nat} {x : DataW H × List MemPlace}

theorem open_intsN {cs : List Value} (h : DataW.trod enc Try.prog W base spare held fuel 23 cs = some x) : ∃ v l, cs = [v] ∧ Row encI 1 W v l ∧ l.length ≤ 9223372036854775807 := by
  rcases open_ints Try.underlying23 Try.underlying3 (by kernel_rfl) h with ⟨rfl, _⟩ | ⟨a, len, cap, zs, rfl, _, hl, hm, hz, _, hc, _⟩
  · exact ⟨_, [], rfl, rowNil, by simp⟩
  · have hlz : len ≤ zs.length := by rw [hz]; split <;> omega
    unfold maxLen at hm
    exact ⟨_, _, rfl, row_of_cells (f := fun n => .int .i64 n) (fun _ => rfl) (q := fun i => zs.getD i 0) hl fun i hi => hc i (by omega), by simp; omega⟩

theorem open_strsN {cs : List Value} (h : DataW.trod enc Try.prog W base spare held fuel 24 cs = some x) : ∃ v l, cs = [v] ∧ Row encS 1 W v l ∧ l.length ≤ 9223372036854775807 := by
  rcases open_slice Try.underlying24 h with ⟨rfl, _⟩ | ⟨ad, len, cap, m, n, D, Pl, rfl, _, hl, hmx, hm, _, hcell⟩
  · exact ⟨_, [], rfl, rowNil, by simp⟩
  · have cs : Try.prog.cellsOf 9 = 1 := by kernel_rfl
    have each : ∀ i, i < len → ∃ q : ByteArray, W.cell? (ad.add i) = some (.string q) := by
      intro i hi
      obtain ⟨cs', h1, h2⟩ := hcell i (by rw [hm]; split <;> omega)
      rw [cs] at h1
      obtain ⟨_, hlen, hc⟩ := World.cells?_some h1
      match cs', hlen with
      | [v0], _ =>
        obtain ⟨z3, e3, _, _⟩ := DataW.trod_string Try.underlying9 h2
        have c0 := hc 0 (by omega)
        rw [add_add] at c0
        simp only [List.cons.injEq, and_true] at e3
        subst e3
        exact ⟨z3, by simpa using c0⟩
    obtain ⟨q, hq⟩ := choose_lt each
    unfold maxLen at hmx
    exact ⟨_, _, rfl, row_of_cells (f := fun s => .string s) (fun _ => rfl) (q := q) hl hq, by simp; omega⟩

abbrev RowNI (W : World) (v : Value) (l : List Int) : Prop := Row encI 1 W v l ∧ l.length ≤ 9223372036854775807
abbrev RowNS (W : World) (v : Value) (l : List ByteArray) : Prop := Row encS 1 W v l ∧ l.length ≤ 9223372036854775807
theorem open_intsA {a : Option Addr} {len cap : Nat} (h : DataW.trod enc Try.prog W base spare held fuel 23 (Value.slice a len cap).cells.toList = some x) : ∃ l, RowNI W (.slice a len cap) l := by
  obtain ⟨v, l, e, h1, h2⟩ := open_intsN h
  simp [Value.cells] at e
  subst e
  exact ⟨l, h1, h2⟩
theorem open_strsA {a : Option Addr} {len cap : Nat} (h : DataW.trod enc Try.prog W base spare held fuel 24 (Value.slice a len cap).cells.toList = some x) : ∃ l, RowNS W (.slice a len cap) l := by
  obtain ⟨v, l, e, h1, h2⟩ := open_strsN h
  simp [Value.cells] at e
  subst e
  exact ⟨l, h1, h2⟩

theorem open_entriesN {cs : List Value} (h : DataW.trod enc Try.prog W base spare held fuel 22 cs = some x) : ∃ v l, cs = [v] ∧ RowN W v l := by
  have h' := h
  rcases open_slice Try.underlying22 h with ⟨hcs, _⟩ | ⟨ad, len, cap, m, n, D, Pl, hcs, _⟩
  · subst hcs
    obtain ⟨l, hr⟩ := open_entries (a := none) (len := 0) (cap := 0) (by simpa [Value.cells] using h')
    exact ⟨_, l, rfl, hr⟩
  · subst hcs
    obtain ⟨l', hr⟩ := open_entries (a := some ad) (len := len) (cap := cap) (by simpa [Value.cells] using h')
    exact ⟨_, l', rfl, hr⟩

theorem trod_struct4 {P : Program} {w : World} {t : TypeId} {f0 f1 f2 f3 : Field} {fuel : Nat} {cs : List Value} {x : DataW H × List MemPlace} (ht : P.underlying t = some (.struct #[f0, f1, f2, f3])) (h : DataW.trod enc P w base spare held fuel t cs = some x) :
    ∃ y0 y1 y2 y3 n, cs.length = P.cellsOf t ∧ DataW.trod enc P w base spare held n f0.type ((cs.drop f0.offset).take (P.cellsOf f0.type)) = some y0 ∧
      DataW.trod enc P w base spare held n f1.type ((cs.drop f1.offset).take (P.cellsOf f1.type)) = some y1 ∧ DataW.trod enc P w base spare held n f2.type ((cs.drop f2.offset).take (P.cellsOf f2.type)) = some y2 ∧
      DataW.trod enc P w base spare held n f3.type ((cs.drop f3.offset).take (P.cellsOf f3.type)) = some y3 := by
  obtain ⟨xs, n, _, rfl, hl, hlen, hf⟩ := DataW.trod_struct ht h
  match xs, hlen with
  | [y0, y1, y2, y3], _ => exact ⟨y0, y1, y2, y3, n, hl, by simpa using hf 0 f0 rfl, by simpa using hf 1 f1 rfl, by simpa using hf 2 f2 rfl, by simpa using hf 3 f3 rfl⟩

/-- A node, no greater than a node can be. -/
def NdA (W : World) (v : Value) (n : Nd) : Prop := ∃ ve vk vs, v = .agg #[.bool n.leaf, ve, vk, vs] ∧ NdR W ve vk vs n

set_option maxRecDepth 100000 in
theorem open_node {v : Value} {r : Reach} {b0 : Nat} (hval : Value.okWide Try.prog W r b0 26 v) (h : DataW.trod enc Try.prog W base spare held fuel 26 v.cells.toList = some x) : ∃ n : Nd, NdA W v n := by
  obtain ⟨cs, rfl, hcs⟩ := okWide_struct Try.underlying26 hval
  have cp : Try.prog.cellsOf 26 = 4 := by kernel_rfl
  have cb : Try.prog.cellsOf 4 = 1 := by kernel_rfl
  have ce : Try.prog.cellsOf 22 = 1 := by kernel_rfl
  have ck : Try.prog.cellsOf 23 = 1 := by kernel_rfl
  have cz : Try.prog.cellsOf 24 = 1 := by kernel_rfl
  rw [cp] at hcs
  obtain ⟨y0, y1, y2, y3, k, _, g0, g1, g2, g3⟩ := trod_struct4 Try.underlying26 h
  obtain ⟨l⟩ := cs
  simp only [Value.cells] at g0 g1 g2 g3
  have hl : l.length = 4 := by simpa using hcs
  match l, hl with
  | [v0, v1, v2, v3], _ =>
    simp [cb, ce, ck, cz] at g0 g1 g2 g3
    obtain ⟨z0, e0, _⟩ := DataW.trod_bool Try.underlying4 g0
    obtain ⟨z1, l1, e1, r1, _⟩ := open_entriesN g1
    obtain ⟨z2, l2, e2, r2, _⟩ := open_intsN g2
    obtain ⟨z3, l3, e3, r3, _⟩ := open_strsN g3
    simp only [List.cons.injEq, and_true] at e0 e1 e2 e3
    subst e0 e1 e2 e3
    exact ⟨⟨z0, l1, l2, l3⟩, _, _, _, rfl, ⟨r1, r2, r3⟩⟩

end Go.Proofs.Ytmamnlphhiaeoaa

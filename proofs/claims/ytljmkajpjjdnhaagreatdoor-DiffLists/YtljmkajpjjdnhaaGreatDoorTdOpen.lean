/-
  Arguments opened: a slice of the document's deltas; the law DiffLists over what is opened.
-/
import Derived.Test.YtljmkajpjjdnhaaGreatDoorTdListsWalk
import Derived.Test.YtljmkajpjjdnhaaGreatDoorTdPass
import Derived.Test.YtljmkajpjjdnhaaGreatDoorEnOpen
import Derived.Lib.LaidTab
namespace Go.Proofs.YtljmkajpjjdnhaaGreatDoor.N
open Go.Deep Go.ChangeShapes Go.WideShapes Go.ChangeAt Go.RowKit Go.ChangeMaps Go.Shelf Go.Lib Go.Sort
set_option linter.unusedVariables false
set_option linter.unusedSectionVars false
variable [DecidableEq Dl] [Inhabited Dl] [Inhabited Th]

variable {H : Type} {enc : TypeId × Value → H} {W : World} {base : Nat} {spare : Nat → Bool} {held : Bool} {fuel : Nat} {x : DataW H × List MemPlace}

theorem trod_struct5 {P : Program} {w : World} {t : TypeId} {f0 f1 f2 f3 f4 : Field} {fuel : Nat} {cs : List Value} {x : DataW H × List MemPlace} (ht : P.underlying t = some (.struct #[f0, f1, f2, f3, f4])) (h : DataW.trod enc P w base spare held fuel t cs = some x) :
    ∃ y0 y1 y2 y3 y4 n, cs.length = P.cellsOf t ∧ DataW.trod enc P w base spare held n f0.type ((cs.drop f0.offset).take (P.cellsOf f0.type)) = some y0 ∧
      DataW.trod enc P w base spare held n f1.type ((cs.drop f1.offset).take (P.cellsOf f1.type)) = some y1 ∧ DataW.trod enc P w base spare held n f2.type ((cs.drop f2.offset).take (P.cellsOf f2.type)) = some y2 ∧
      DataW.trod enc P w base spare held n f3.type ((cs.drop f3.offset).take (P.cellsOf f3.type)) = some y3 ∧ DataW.trod enc P w base spare held n f4.type ((cs.drop f4.offset).take (P.cellsOf f4.type)) = some y4 := by
  obtain ⟨xs, n, _, rfl, hl, hlen, hf⟩ := DataW.trod_struct ht h
  match xs, hlen with
  | [y0, y1, y2, y3, y4], _ => exact ⟨y0, y1, y2, y3, y4, n, hl, by simpa using hf 0 f0 rfl, by simpa using hf 1 f1 rfl, by simpa using hf 2 f2 rfl, by simpa using hf 3 f3 rfl, by simpa using hf 4 f4 rfl⟩

def RowDn (W : World) (v : Value) (l : List Dl) : Prop := Row encD 5 W v l
set_option maxRecDepth 100000 in
theorem open_deltas {a : Option Addr} {len cap : Nat} (h : DataW.trod enc Tryz.prog W base spare held fuel 23 (Value.slice a len cap).cells.toList = some x) : ∃ l : List Dl, RowDn W (.slice a len cap) l := by
  rcases open_slice Tryz.underlying23 h with ⟨hcs, _⟩ | ⟨ad, l, c, m, n, D, Pl, hcs, _, hl, _, hm, _, hcell⟩
  · simp [Value.cells] at hcs
    obtain ⟨rfl, rfl, rfl⟩ := hcs
    exact ⟨[], none, 0, rfl, Nat.le_refl _, fun _ => rfl, fun h => absurd rfl h⟩
  · simp [Value.cells] at hcs
    obtain ⟨rfl, rfl, rfl⟩ := hcs
    have ce : Tryz.prog.cellsOf 27 = 5 := by kernel_rfl
    have cu : Tryz.prog.cellsOf 9 = 1 := by kernel_rfl
    have cb : Tryz.prog.cellsOf 4 = 1 := by kernel_rfl
    have each : ∀ i, i < len → ∃ q : Dl, W.cell? (ad.add (i * 5)) = some (.string q.key) ∧ W.cell? (ad.add (i * 5 + 1)) = some (.string q.old) ∧ W.cell? (ad.add (i * 5 + 2)) = some (.string q.new) ∧ W.cell? (ad.add (i * 5 + 3)) = some (.bool q.was) ∧ W.cell? (ad.add (i * 5 + 4)) = some (.bool q.is) := by
      intro i hi
      obtain ⟨cs', h1, h2⟩ := hcell i (by rw [hm]; split <;> omega)
      rw [ce] at h1
      obtain ⟨_, hlen, hc⟩ := World.cells?_some h1
      obtain ⟨y0, y1, y2, y3, y4, k, _, g0, g1, g2, g3, g4⟩ := trod_struct5 Tryz.underlying27 h2
      match cs', hlen with
      | [v0, v1, v2, v3, v4], _ =>
        simp [cu, cb] at g0 g1 g2 g3 g4
        obtain ⟨z0, e0, _⟩ := DataW.trod_string Tryz.underlying9 g0
        obtain ⟨z1, e1, _⟩ := DataW.trod_string Tryz.underlying9 g1
        obtain ⟨z2, e2, _⟩ := DataW.trod_string Tryz.underlying9 g2
        obtain ⟨z3, e3, _⟩ := DataW.trod_bool Tryz.underlying4 g3
        obtain ⟨z4, e4, _⟩ := DataW.trod_bool Tryz.underlying4 g4
        have c0 := hc 0 (by omega)
        have c1 := hc 1 (by omega)
        have c2 := hc 2 (by omega)
        have c3 := hc 3 (by omega)
        have c4 := hc 4 (by omega)
        rw [add_add] at c0 c1 c2 c3 c4
        simp only [List.cons.injEq, and_true] at e0 e1 e2 e3 e4
        subst e0 e1 e2 e3 e4
        exact ⟨⟨z0, z1, z2, z3, z4⟩, by simpa using c0, by simpa using c1, by simpa using c2, by simpa using c3, by simpa using c4⟩
    obtain ⟨q, hq⟩ := choose_lt each
    refine ⟨(List.range len).map q, some ad, cap, by simp, by simpa using hl, (fun h => by cases h), fun hne => ?_⟩
    have hpos : 0 < len := by
      rcases Nat.eq_zero_or_pos len with e | e
      · subst e; exact absurd rfl hne
      · exact e
    obtain ⟨b, off, spot⟩ := ad
    have c0 := (hq 0 hpos).1
    have hspot : spot = none := by simpa [Addr.add] using World.cell?_spot c0
    subst hspot
    rw [add_plain] at c0
    refine ⟨b, off, rfl, block_of_cell c0, fun t ht => ?_⟩
    have ht' : t < len * 5 := by simpa using ht
    rw [get_flatK _ _ _ _ (by simpa using ht)]
    obtain ⟨x0, x1, x2, x3, x4⟩ := hq (t / 5) (by omega)
    simp only [add_plain] at x0 x1 x2 x3 x4
    have eg : ((List.range len).map q).toArray[t / 5]! = q (t / 5) := by
      rw [getElem!_pos _ _ (by simp; omega)]
      simp
    rw [eg]
    have hm5 : t % 5 < 5 := Nat.mod_lt _ (by decide)
    have cases5 : t % 5 = 0 ∨ t % 5 = 1 ∨ t % 5 = 2 ∨ t % 5 = 3 ∨ t % 5 = 4 := by omega
    rcases cases5 with e | e | e | e | e
    · rw [e, show off + t = off + t / 5 * 5 by omega, x0]; rfl
    · rw [e, show off + t = off + (t / 5 * 5 + 1) by omega, x1]; rfl
    · rw [e, show off + t = off + (t / 5 * 5 + 2) by omega, x2]; rfl
    · rw [e, show off + t = off + (t / 5 * 5 + 3) by omega, x3]; rfl
    · rw [e, show off + t = off + (t / 5 * 5 + 4) by omega, x4]; rfl

theorem diffLists_f (va : Value) (a : List En) (vb : Value) (b : List En) (vd : Value) (ds : List Dl) (w : World) (ha : RowN w va a) (hb : RowN w vb b) (hd : RowDn w vd ds) :
    Calls Tryz.prog 3 #[va, vb, vd] w fun e w' => e = .returned (.bool true) ∧ Below w.heap.size w w' := diffLists passOk va vb vd a b ds w ha.1 hb.1 hd

end Go.Proofs.YtljmkajpjjdnhaaGreatDoor.N

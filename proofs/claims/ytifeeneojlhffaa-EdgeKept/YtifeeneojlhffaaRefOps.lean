/-
  The walks of the document's functions on lists: Put, Without, Sort, Minus, Apply.
-/
import Derived.Test.YtifeeneojlhffaaRefFn
namespace Go.Proofs.Ytifeeneojlhffaa
open Go.Shelf Go.RowKit Go.Lib Go.Sort

/-- A row of pairs that the call has made by append. -/
abbrev OwnP (base : Nat) (W : World) (v : Value) (l : List Pr) : Prop := W.ownsRow base 25 2 v l.length (flatK encP 2 l.toArray).toList

theorem OwnP.empty (base : Nat) (W : World) : OwnP base W (.slice none 0 0) [] := by unfold OwnP; simpa [flatK] using World.ownsRow_nil W base 25 2
theorem OwnP.own {base : Nat} {W : World} {v : Value} {l : List Pr} (h : OwnP base W v l) : Own encP 2 base W v l := own_of_owns (by decide) h

theorem OwnP.step {base : Nat} {W w1 : World} {v v' : Value} {l : List Pr} {x : Pr} (hbase : base ≤ W.heap.size) (h : OwnP base W v l) (hgrow : W.grownBy w1 v.ownBlock) (hown : w1.ownsRow base 25 2 v' (l.length + 1) ((flatK encP 2 l.toArray).toList ++ encP x)) :
    OwnP base w1 v' (l ++ [x]) ∧ ∀ w0, Below base w0 W → Below base w0 w1 := by
  refine ⟨?_, fun w0 hb => hb.grown hgrow hbase fun k hk => ?_⟩
  · show w1.ownsRow base 25 2 v' (l ++ [x]).length (flatK encP 2 (l ++ [x]).toArray).toList
    rw [List.length_append, List.length_singleton, flatK_snoc encP 2 encP_len]
    exact hown
  · rcases row_of_owns h with hr | ⟨r, hr, hle⟩
    · rw [hr] at hk; cases hk
    · rw [hr] at hk; cases hk; exact hle

/-- One pair appended to such a row. -/
theorem app_pair {ops : Array Oper} {rest : List Oper} {o : Oper} {a : Act} {Q : Exit → Act → World → Prop} {w : World} (hgd : o.guard = .none) (s x : Operand)
    (ho : o.op = .call { callee := .builtin .append, args := #[s, x], argTypes := #[39, 39] }) (base : Nat) (v : Value) (l : List Pr) (hs : a.eval s = v) (hown : OwnP base w v l)
    (b off c : Nat) (hx : a.eval x = .slice (some ⟨b, off, .none⟩) 1 c) (y : Pr) (c0 : w.cell? ⟨b, off, .none⟩ = some (.int .i64 y.1)) (c1 : w.cell? ⟨b, off + 1, .none⟩ = some (.int .i64 y.2)) (hl : l.length < 1000000) (hbase : base ≤ w.heap.size)
    (h : ∀ ao n c w', OwnP base w' (.slice ao n c) (l ++ [y]) → (∀ w0, Below base w0 w → Below base w0 w') → wpList Try.prog ops Q rest (a.put o.dst (.slice ao n c)) w') : wpList Try.prog ops Q (o :: rest) a w := by
  obtain ⟨i0, hi, hz0, hz1, hz2⟩ := info_parts infoPair
  refine wpList_append_own w hgd s x 39 ho base 25 i0 _ 2 16 Try.underlying39 hi hz0 hz1 hz2 rfl (by decide) v _ _ hs hown ⟨b, off, .none⟩ 1 c (encP y) hx rfl ?_ (encP_one y) (by unfold maxLen; omega) (by omega) hbase ?_
  · intro j u hj
    simp only [encP] at hj
    match j, hj with
    | 0, hj => simp at hj; subst hj; simpa [Addr.add] using c0
    | 1, hj => simp at hj; subst hj; simpa [Addr.add] using c1
  · intro v' w' h1 h2 _
    obtain ⟨s1, s2⟩ := OwnP.step hbase hown h2 h1
    obtain ⟨ao', n', c', rfl⟩ : ∃ ao n c, v' = .slice ao n c := by
      rcases h1.2 with ⟨h, _⟩ | ⟨g, cap, cur, h, _⟩
      · exact ⟨_, _, _, h⟩
      · exact ⟨_, _, _, h⟩
    exact h _ _ _ _ s1 s2

set_option maxHeartbeats 4000000 in
set_option maxRecDepth 100000 in
theorem without_any (v : Value) (l : List Pr) (p : Pr) (w : World) (h : Row encP 2 w v l) (hl : l.length ≤ 100000) :
    Calls Try.prog 47 #[v, .agg #[.int .i64 p.1, .int .i64 p.2]] w fun e w' => ∃ v', e = .returned v' ∧ Own encP 2 w.heap.size w' v' (withoutL l p) ∧ Below w.heap.size w w' := by
  obtain ⟨ao, cap, rfl, h1, h2, h3⟩ := h
  have H3 : Aside (l ≠ [] → ∃ b off, ao = some ⟨b, off, none⟩ ∧ b < w.heap.size ∧ CellsK encP 2 w b off l) := h3
  have B0 : Hid (Below w.heap.size w (w.alloc (.cells #[.int .i64 p.1, .int .i64 p.2] 25))) := (Below.refl _ w).alloc (Nat.le_refl _) _
  have p0 : (w.alloc (.cells #[.int .i64 p.1, .int .i64 p.2] 25)).cell? ⟨w.heap.size, 0, none⟩ = some (.int .i64 p.1) := by simp
  have p1 : (w.alloc (.cells #[.int .i64 p.1, .int .i64 p.2] 25)).cell? ⟨w.heap.size, 1, none⟩ = some (.int .i64 p.2) := by simp
  have hz : (w.alloc (.cells #[.int .i64 p.1, .int .i64 p.2] 25)).heap.size ≥ w.heap.size + 1 := by simp
  clear h3
  go_enter Try.func47, Try.ntmps47
  go_wp2
  generalize w.alloc (.cells #[.int .i64 p.1, .int .i64 p.2] 25) = w0 at B0 p0 p1 hz ⊢
  have P0 : Hid (w0.cell? ⟨w.heap.size, 0, none⟩ = some (.int .i64 p.1)) := p0
  have P1 : Hid (w0.cell? ⟨w.heap.size, 1, none⟩ = some (.int .i64 p.2)) := p1
  clear p0 p1
  go_loopg [5, 6] l.length (fun kx s5 s6 wr => ∃ (i : Nat) (ao' : Option Addr) (n' c' : Nat), s5 = .slice ao' n' c' ∧ s6 = .int .i64 i ∧ i ≤ l.length ∧ l.length - i ≤ kx ∧ Aside (OwnP w0.heap.size wr (.slice ao' n' c') (withoutL (l.take i) p)) ∧ Hid (Below w0.heap.size w0 wr))
  case atStart => exact ⟨0, none, 0, 0, rfl, rfl, Nat.zero_le _, Nat.le_refl _, OwnP.empty _ _, Below.refl _ _⟩
  case round =>
    obtain ⟨i, ao', n', c', rfl, rfl, hi, hki, HO, HB⟩ := hrel
    have hsz : w0.heap.size ≤ wr.heap.size := HB.out.size
    by_cases hil : i < l.length
    · have hilz : (i : Int) < (l.length : Int) := by omega
      have BB : Hid (Below w.heap.size w wr) := B0.out.trans (HB.out.mono (by omega))
      obtain ⟨b, off, rfl, hb, x1, x2⟩ := row_at H3.out i hil BB.out
      have c0 : wr.cell? ⟨w.heap.size, 0, none⟩ = some (.int .i64 p.1) := by rw [HB.out.cell (p := ⟨w.heap.size, 0, none⟩) (by simp; omega)]; exact P0.out
      have c1 : wr.cell? ⟨w.heap.size, 1, none⟩ = some (.int .i64 p.2) := by rw [HB.out.cell (p := ⟨w.heap.size, 1, none⟩) (by simp; omega)]; exact P1.out
      have T : Hid (l.take (i + 1) = l.take i ++ [l[i]!]) := take_next hil
      have HL : (withoutL (l.take i) p).length ≤ 100000 := Nat.le_trans (List.length_filter_le _ _) (by simp; omega)
      generalize l[i]! = x at *
      have HD : Hid (Below w0.heap.size w0 wr.drew) := HB.out.drew
      have HO2 : Aside (OwnP w0.heap.size wr.drew (.slice ao' n' c') (withoutL (l.take i) p)) := by have := ownsRow_grown HO.out 1 #[]; rw [grow_empty] at this; exact this
      by_cases he : x = p
      · have E := fun W => neqP (x := x) (y := p) (decide_eq_true he) W
        have G := gdP x p
        have HE : Hid (x = p) := he
        clear he
        simp only [Bool.not_true] at E
        go_wp2_with fail
        go_region
        all_goals go_wp2
        all_goals go_roundg (l.length - (i + 1))
        case measure => omega
        case rel =>
          refine ⟨i + 1, ao', n', c', rfl, by go_num, by omega, Nat.le_refl _, ?_, HD⟩
          have e : withoutL (l.take (i + 1)) p = withoutL (l.take i) p := by rw [T.out, withoutL, List.filter_append]; simp [HE.out, withoutL]
          rw [e]
          exact HO2
      · have E := fun W => neqP (x := x) (y := p) (decide_eq_false he) W
        have G := gdP x p
        have HE : Hid (x ≠ p) := he
        clear he
        simp only [Bool.not_false] at E
        go_wp2_with fail
        go_region
        all_goals
          have x3 : wr.drew.cell? ⟨b, off + i * 2, none⟩ = some (.int .i64 x.1) := x1
          have x4 : wr.drew.cell? ⟨b, off + i * 2 + 1, none⟩ = some (.int .i64 x.2) := x2
          have hs3 : wr.drew.heap.size = wr.heap.size := rfl
          clear x1 x2 c0 c1
          generalize wr.drew = w2 at HD HO2 x3 x4 hs3 ⊢
          have hs4 : w0.heap.size ≤ w2.heap.size := by omega
          clear hs3
          go_wp2_with (at_builtin; refine app_pair rfl _ _ rfl w0.heap.size _ _ rfl (HO2.out.alloc _) w2.heap.size 0 1 rfl x (by simp) (by simp) (by omega) (by simp; omega) ?_)
          intro ao2 n2 c2 w3 HO3 HB3
          have HO4 : Aside (OwnP w0.heap.size w3 (.slice ao2 n2 c2) (withoutL (l.take i) p ++ [x])) := HO3
          have HB4 : Hid (Below w0.heap.size w0 w3) := HB3 _ (HD.out.alloc hs4 _)
          clear HO3 HB3
          go_wp2
          go_roundg (l.length - (i + 1))
        case measure => omega
        case rel =>
          refine ⟨i + 1, ao2, n2, c2, rfl, by go_num, by omega, Nat.le_refl _, ?_, HB4⟩
          have e : withoutL (l.take (i + 1)) p = withoutL (l.take i) p ++ [x] := by rw [T.out, withoutL, List.filter_append]; simp [HE.out, withoutL]
          rw [e]
          exact HO4
    · have hilz : ¬ (i : Int) < (l.length : Int) := by omega
      obtain rfl : i = l.length := by omega
      rw [List.take_length] at HO
      go_wp2
      go_ret
      exact ⟨_, rfl, Own.mono HO.out.own (by omega), B0.out.trans (HB.out.mono (by omega))⟩

end Go.Proofs.Ytifeeneojlhffaa

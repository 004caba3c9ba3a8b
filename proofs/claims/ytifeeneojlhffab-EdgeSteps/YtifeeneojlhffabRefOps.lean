/-
  The walks of the document's functions on lists: Put, Without, Sort, Minus, Apply.
-/
import Derived.Test.YtifeeneojlhffabRefFn
namespace Go.Proofs.Ytifeeneojlhffab
open Go.Shelf Go.RowKit Go.Lib Go.Sort

/-- A row of pairs that the call has made by append. -/
abbrev OwnP (base : Nat) (W : World) (v : Value) (l : List Pr) : Prop := W.ownsRow base 24 2 v l.length (flatK encP 2 l.toArray).toList

theorem OwnP.empty (base : Nat) (W : World) : OwnP base W (.slice none 0 0) [] := by unfold OwnP; simpa [flatK] using World.ownsRow_nil W base 24 2
theorem OwnP.own {base : Nat} {W : World} {v : Value} {l : List Pr} (h : OwnP base W v l) : Own encP 2 base W v l := own_of_owns (by decide) h

theorem OwnP.step {base : Nat} {W w1 : World} {v v' : Value} {l : List Pr} {x : Pr} (hbase : base ≤ W.heap.size) (h : OwnP base W v l) (hgrow : W.grownBy w1 v.ownBlock) (hown : w1.ownsRow base 24 2 v' (l.length + 1) ((flatK encP 2 l.toArray).toList ++ encP x)) :
    OwnP base w1 v' (l ++ [x]) ∧ ∀ w0, Below base w0 W → Below base w0 w1 := by
  refine ⟨?_, fun w0 hb => hb.grown hgrow hbase fun k hk => ?_⟩
  · show w1.ownsRow base 24 2 v' (l ++ [x]).length (flatK encP 2 (l ++ [x]).toArray).toList
    rw [List.length_append, List.length_singleton, flatK_snoc encP 2 encP_len]
    exact hown
  · rcases row_of_owns h with hr | ⟨r, hr, hle⟩
    · rw [hr] at hk; cases hk
    · rw [hr] at hk; cases hk; exact hle

/-- One pair appended to such a row. -/
theorem app_pair {ops : Array Oper} {rest : List Oper} {o : Oper} {a : Act} {Q : Exit → Act → World → Prop} {w : World} (hgd : o.guard = .none) (s x : Operand)
    (ho : o.op = .call { callee := .builtin .append, args := #[s, x], argTypes := #[22, 22] }) (base : Nat) (v : Value) (l : List Pr) (hs : a.eval s = v) (hown : OwnP base w v l)
    (b off c : Nat) (hx : a.eval x = .slice (some ⟨b, off, .none⟩) 1 c) (y : Pr) (c0 : w.cell? ⟨b, off, .none⟩ = some (.int .i64 y.1)) (c1 : w.cell? ⟨b, off + 1, .none⟩ = some (.int .i64 y.2)) (hl : l.length < 1000000) (hbase : base ≤ w.heap.size)
    (h : ∀ ao n c w', OwnP base w' (.slice ao n c) (l ++ [y]) → (∀ w0, Below base w0 w → Below base w0 w') → wpList Try.prog ops Q rest (a.put o.dst (.slice ao n c)) w') : wpList Try.prog ops Q (o :: rest) a w := by
  obtain ⟨i0, hi, hz0, hz1, hz2⟩ := info_parts infoPair
  refine wpList_append_own w hgd s x 22 ho base 24 i0 _ 2 16 Try.underlying22 hi hz0 hz1 hz2 rfl (by decide) v _ _ hs hown ⟨b, off, .none⟩ 1 c (encP y) hx rfl ?_ (encP_one y) (by unfold maxLen; omega) (by omega) hbase ?_
  · intro j u hj
    simp only [encP] at hj
    match j, hj with
    | 0, hj => simp at hj; subst hj; simpa [Addr.add] using c0
    | 1, hj => simp at hj; subst hj; simpa [Addr.add] using c1
  · intro v' w' h1 h2 _
    obtain ⟨s1, s2⟩ := OwnP.step hbase hown h2 h1
    obtain ⟨ao', n', c', rfl⟩ : ∃ ao n c, v' = .slice ao n c := by
      rcases h1.2 with ⟨h, _⟩ | ⟨g, cap, cur, h, _⟩
      · exact ⟨_, _, _, h⟩
      · exact ⟨_, _, _, h⟩
    exact h _ _ _ _ s1 s2

end Go.Proofs.Ytifeeneojlhffab

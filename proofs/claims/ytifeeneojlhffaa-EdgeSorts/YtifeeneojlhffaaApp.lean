/-
  append at rows of pairs and of changes: a whole row appended to one that the call has made.
-/
import Derived.Test.YtifeeneojlhffaaRefOps
import Derived.Laws.AppendOwnNone
namespace Go.Proofs.Ytifeeneojlhffaa
open Go.Shelf Go.RowKit Go.Lib Go.Sort

theorem flatK_append {α : Type} [Inhabited α] (enc : α → List Value) (k : Nat) (hk : ∀ x, (enc x).length = k) : ∀ (m l : List α), (flatK enc k (l ++ m).toArray).toList = (flatK enc k l.toArray).toList ++ (flatK enc k m.toArray).toList
  | [], l => by simp [flatK]
  | x :: m, l => by
    have e1 : l ++ x :: m = (l ++ [x]) ++ m := by simp
    have e2 : (flatK enc k (x :: m).toArray).toList = enc x ++ (flatK enc k m.toArray).toList := by
      have h := flatK_append enc k hk m [x]
      have h2 := flatK_snoc enc k hk [] x
      rw [List.nil_append] at h2
      rw [h2] at h
      simpa [flatK] using h
    rw [e1, flatK_append enc k hk m (l ++ [x]), flatK_snoc enc k hk, e2, List.append_assoc]

/-- A row of changes that the call has made by append. -/
abbrev OwnC (base : Nat) (W : World) (v : Value) (l : List Ch) : Prop := W.ownsRow base 50 3 v l.length (flatK encC 3 l.toArray).toList
theorem OwnC.empty (base : Nat) (W : World) : OwnC base W (.slice none 0 0) [] := by unfold OwnC; simpa [flatK] using World.ownsRow_nil W base 50 3
theorem OwnC.own {base : Nat} {W : World} {v : Value} {l : List Ch} (h : OwnC base W v l) : Own encC 3 base W v l := own_of_owns (by decide) h

theorem app_rowP {ops : Array Oper} {rest : List Oper} {o : Oper} {a : Act} {Q : Exit → Act → World → Prop} {w : World} (hgd : o.guard = .none) (s x : Operand)
    (ho : o.op = .call { callee := .builtin .append, args := #[s, x], argTypes := #[39, 39] }) (base : Nat) (v : Value) (l : List Pr) (hs : a.eval s = v) (hown : OwnP base w v l)
    (u : Value) (m : List Pr) (hx : a.eval x = u) (hu : Row encP 2 w u m) (hl : l.length + m.length < 1000000) (hbase : base ≤ w.heap.size) (lm : List Pr) (hlm : l ++ m = lm)
    (h : ∀ ao n c w', OwnP base w' (.slice ao n c) lm → (∀ w0, Below base w0 w → Below base w0 w') → wpList Try.prog ops Q rest (a.put o.dst (.slice ao n c)) w') : wpList Try.prog ops Q (o :: rest) a w := by
  subst hlm
  obtain ⟨i0, hi, hz0, hz1, hz2⟩ := info_parts infoPair
  obtain ⟨ao, cap, rfl, h1, h2, h3⟩ := hu
  obtain ⟨av, nv, cv, rfl⟩ : ∃ ao n c, v = .slice ao n c := by
    rcases hown.2 with ⟨h, _⟩ | ⟨g, cap, cur, h, _⟩
    · exact ⟨_, _, _, h⟩
    · exact ⟨_, _, _, h⟩
  cases ao with
  | none =>
    have hm : m = [] := by
      rcases List.eq_nil_or_concat m with e | ⟨m', y, e⟩
      · exact e
      · obtain ⟨b, off, e2, _⟩ := h3 (by rw [e]; simp)
        cases e2
    subst hm
    rw [h2 rfl] at hx
    refine wpList_append_own_none hgd s x 39 ho base 25 i0 2 Try.underlying39 hi _ _ _ hs hown hx ?_
    exact h _ _ _ _ (by rw [List.append_nil]; exact hown) (fun _ hb => hb)
  | some ad =>
    refine wpList_append_own w hgd s x 39 ho base 25 i0 _ 2 16 Try.underlying39 hi hz0 hz1 hz2 rfl (by decide) _ _ _ hs hown ad m.length cap (flatK encP 2 m.toArray).toList hx (by simp) ?_ (flatK_oneCell encP_one encP_len) (by unfold maxLen; omega) (by omega) hbase ?_
    · intro j u hj
      obtain ⟨hj1, hj2⟩ := List.getElem?_eq_some_iff.1 hj
      have hj3 : j < m.length * 2 := by simpa using hj1
      obtain ⟨b, off, e2, _, hc⟩ := h3 (by intro e; rw [e] at hj3; simp at hj3)
      cases e2
      rw [Go.WideShapes.add_plain, hc j hj3, getElem!_pos _ j (by simpa using hj3), ← hj2]
      simp
    · intro v' w' g1 g2 _
      obtain ⟨ao', n', c', rfl⟩ : ∃ ao n c, v' = .slice ao n c := by
        rcases g1.2 with ⟨h, _⟩ | ⟨g, cap, cur, h, _⟩
        · exact ⟨_, _, _, h⟩
        · exact ⟨_, _, _, h⟩
      refine h _ _ _ _ ?_ (fun w0 hb => hb.grown g2 hbase fun k hk => ?_)
      · show w'.ownsRow base 25 2 _ (l ++ m).length (flatK encP 2 (l ++ m).toArray).toList
        rw [List.length_append, flatK_append encP 2 encP_len]
        exact g1
      · rcases row_of_owns hown with hr | ⟨r, hr, hle⟩
        · rw [hr] at hk; cases hk
        · rw [hr] at hk; cases hk; exact hle

theorem app_rowC {ops : Array Oper} {rest : List Oper} {o : Oper} {a : Act} {Q : Exit → Act → World → Prop} {w : World} (hgd : o.guard = .none) (s x : Operand)
    (ho : o.op = .call { callee := .builtin .append, args := #[s, x], argTypes := #[40, 40] }) (base : Nat) (v : Value) (l : List Ch) (hs : a.eval s = v) (hown : OwnC base w v l)
    (u : Value) (m : List Ch) (hx : a.eval x = u) (hu : Row encC 3 w u m) (hl : l.length + m.length < 1000000) (hbase : base ≤ w.heap.size) (lm : List Ch) (hlm : l ++ m = lm)
    (h : ∀ ao n c w', OwnC base w' (.slice ao n c) lm → (∀ w0, Below base w0 w → Below base w0 w') → wpList Try.prog ops Q rest (a.put o.dst (.slice ao n c)) w') : wpList Try.prog ops Q (o :: rest) a w := by
  subst hlm
  obtain ⟨i0, hi, hz0, hz1, hz2⟩ := info_parts infoChange
  obtain ⟨ao, cap, rfl, h1, h2, h3⟩ := hu
  obtain ⟨av, nv, cv, rfl⟩ : ∃ ao n c, v = .slice ao n c := by
    rcases hown.2 with ⟨h, _⟩ | ⟨g, cap, cur, h, _⟩
    · exact ⟨_, _, _, h⟩
    · exact ⟨_, _, _, h⟩
  cases ao with
  | none =>
    have hm : m = [] := by
      rcases List.eq_nil_or_concat m with e | ⟨m', y, e⟩
      · exact e
      · obtain ⟨b, off, e2, _⟩ := h3 (by rw [e]; simp)
        cases e2
    subst hm
    rw [h2 rfl] at hx
    refine wpList_append_own_none hgd s x 40 ho base 50 i0 3 Try.underlying40 hi _ _ _ hs hown hx ?_
    exact h _ _ _ _ (by rw [List.append_nil]; exact hown) (fun _ hb => hb)
  | some ad =>
    refine wpList_append_own w hgd s x 40 ho base 50 i0 _ 3 24 Try.underlying40 hi hz0 hz1 hz2 rfl (by decide) _ _ _ hs hown ad m.length cap (flatK encC 3 m.toArray).toList hx (by simp) ?_ (flatK_oneCell encC_one encC_len) (by unfold maxLen; omega) (by omega) hbase ?_
    · intro j u hj
      obtain ⟨hj1, hj2⟩ := List.getElem?_eq_some_iff.1 hj
      have hj3 : j < m.length * 3 := by simpa using hj1
      obtain ⟨b, off, e2, _, hc⟩ := h3 (by intro e; rw [e] at hj3; simp at hj3)
      cases e2
      rw [Go.WideShapes.add_plain, hc j hj3, getElem!_pos _ j (by simpa using hj3), ← hj2]
      simp
    · intro v' w' g1 g2 _
      obtain ⟨ao', n', c', rfl⟩ : ∃ ao n c, v' = .slice ao n c := by
        rcases g1.2 with ⟨h, _⟩ | ⟨g, cap, cur, h, _⟩
        · exact ⟨_, _, _, h⟩
        · exact ⟨_, _, _, h⟩
      refine h _ _ _ _ ?_ (fun w0 hb => hb.grown g2 hbase fun k hk => ?_)
      · show w'.ownsRow base 50 3 _ (l ++ m).length (flatK encC 3 (l ++ m).toArray).toList
        rw [List.length_append, flatK_append encC 3 encC_len]
        exact g1
      · rcases row_of_owns hown with hr | ⟨r, hr, hle⟩
        · rw [hr] at hk; cases hk
        · rw [hr] at hk; cases hk; exact hle

theorem ownsRow_below {W W' : World} {base : Nat} {e : TypeId} {k : Nat} {v : Value} {n : Nat} {xs : List Value} (h : W.ownsRow base e k v n xs) (hb : Below W.heap.size W W') : W'.ownsRow base e k v n xs := by
  obtain ⟨h1, h2⟩ := h
  refine ⟨h1, ?_⟩
  rcases h2 with h2 | ⟨g, cap, cur, hv, hg, hh, r⟩
  · exact Or.inl h2
  · exact Or.inr ⟨g, cap, cur, hv, hg, by rw [hb.block g (Array.getElem?_eq_some_iff.1 hh).1]; exact hh, r⟩

end Go.Proofs.Ytifeeneojlhffaa

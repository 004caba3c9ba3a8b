/-
  append of a row: what else lies in rows of other types stays as it was.
-/
import Derived.Test.YtmamnlphhiaeoaaNdKit
namespace Go.Proofs.Ytmamnlphhiaeoaa
open Go.Shelf Go.RowKit Go.Lib Go.Sort

/-- Rows of other types are as they were. -/
def OthT (T : TypeId) (w w' : World) : Prop := ∀ (base : Nat) (e : TypeId) (k : Nat) (v : Value) (n : Nat) (xs : List Value), e ≠ T → w.ownsRow base e k v n xs → w'.ownsRow base e k v n xs
theorem OthT.refl (T : TypeId) (w : World) : OthT T w w := fun _ _ _ _ _ _ _ h => h
theorem oth_of {T : TypeId} {w w' : World} {base k n : Nat} {v : Value} {xs : List Value} (h : w.ownsRow base T k v n xs) (g : w.grownBy w' v.ownBlock) : OthT T w w' := by
  intro base' e' k' v' n' xs' hne h'
  refine h'.kept g ?_
  rcases h'.2 with ⟨rfl, _⟩ | ⟨b', cap', cur', rfl, _, hb', _⟩
  · exact Or.inl rfl
  · right
    rcases h.2 with ⟨rfl, _⟩ | ⟨b, cap, cur, rfl, _, hb, _⟩
    · simp [Value.ownBlock]
    · simp only [Value.ownBlock, ne_eq, Option.some.injEq]
      intro e
      subst e
      rw [hb'] at hb
      injection hb with hb
      injection hb with _ h2
      exact hne h2

theorem run_appOE {base : Nat} {w : World} {v u : Value} {l m : List En} (ty : TypeId) (h : OwnP base w v l) (hu : Row encP 2 w u m) (hl : l.length + m.length < 1000000) (hbase : base ≤ w.heap.size) :
    ∃ ao n c w', (Builtin.append_ #[22, 22] ty #[v, u]).run Try.prog w = .ok (.slice ao n c) w' ∧ OwnP base w' (.slice ao n c) (l ++ m) ∧ (∀ w0, Below base w0 w → Below base w0 w') ∧ OthT 56 w w' := by
  obtain ⟨i0, hi, hz0, hz1, hz2⟩ := info_parts infoPair
  have ht := Try.underlying22
  obtain ⟨ao, cap, rfl, h1, h2, h3⟩ := hu
  cases ao with
  | none =>
    have hm : m = [] := by
      rcases List.eq_nil_or_concat m with e1 | ⟨m', y, e1⟩
      · exact e1
      · obtain ⟨b, off, e2, _⟩ := h3 (by rw [e1]; simp)
        cases e2
    subst hm
    have hc0 := h2 rfl
    subst hc0
    obtain ⟨av, cv, rfl⟩ := ownShape h
    exact ⟨_, _, _, w, run_append_owned_none (P := Try.prog) w base _ ty _ i0 2 ht hi _ _ _ h, by rw [List.append_nil]; exact h, fun _ hb => hb, OthT.refl _ _⟩
  | some ad =>
    obtain ⟨v', w', hr, g1, g2, _⟩ := run_append_own (P := Try.prog) w base 22 ty 56 i0 _ 2 32 ht hi hz0 hz1 hz2 rfl (by decide) v _ _ h ad m.length cap (flatK encP 2 m.toArray).toList (by simp) (fun j u hj => by
      obtain ⟨hj1, hj2⟩ := List.getElem?_eq_some_iff.1 hj
      have hj3 : j < m.length * 2 := by simpa using hj1
      obtain ⟨b, off, e2, _, hc⟩ := h3 (by intro e; rw [e] at hj3; simp at hj3)
      cases e2
      rw [Go.WideShapes.add_plain, hc j hj3, getElem!_pos _ j (by simpa using hj3), ← hj2]
      simp) (flatK_oneCell encP_one encP_len) (by unfold maxLen; omega) (by omega) hbase
    obtain ⟨av, cv, rfl⟩ := ownShape g1
    refine ⟨_, _, _, w', hr, ?_, (fun w0 hb => hb.grown g2 hbase fun k hk => ownOther h k hk), oth_of h g2⟩
    show w'.ownsRow base 56 2 _ (l ++ m).length (flatK encP 2 (l ++ m).toArray).toList
    rw [List.length_append, flatK_append encP 2 encP_len]
    exact g1
theorem appOE {ops : Array Oper} {rest : List Oper} {o : Oper} {a : Act} {Q : Exit → Act → World → Prop} {w : World} (hgd : o.guard = .none) (s x : Operand)
    (ho : o.op = .call { callee := .builtin .append, args := #[s, x], argTypes := #[22, 22] }) (base : Nat) (v : Value) (l : List En) (hs : a.eval s = v) (hown : OwnP base w v l)
    (u : Value) (m : List En) (hx : a.eval x = u) (hu : Row encP 2 w u m) (hl : l.length + m.length < 1000000) (hbase : base ≤ w.heap.size) (lm : List En) (hlm : l ++ m = lm)
    (h : ∀ ao n c w', OwnP base w' (.slice ao n c) lm → (∀ w0, Below base w0 w → Below base w0 w') → OthT 56 w w' → wpList Try.prog ops Q rest (a.put o.dst (.slice ao n c)) w') : wpList Try.prog ops Q (o :: rest) a w := by
  subst hlm
  refine wpList_plain hgd fun K hK' => ?_
  obtain ⟨ao, n, c, w', hrun, h1, h2, h3⟩ := run_appOE o.type hown hu hl hbase
  unfold Oper.wp
  simp [execOp, ho, resolve, invoke, builtin, hs, hx, hrun, Result.andThen]
  exact hK' _ _ (h ao n c w' h1 h2 h3)

theorem run_appOI {base : Nat} {w : World} {v u : Value} {l m : List Int} (ty : TypeId) (h : OwnI base w v l) (hu : Row encI 1 w u m) (hl : l.length + m.length < 1000000) (hbase : base ≤ w.heap.size) :
    ∃ ao n c w', (Builtin.append_ #[23, 23] ty #[v, u]).run Try.prog w = .ok (.slice ao n c) w' ∧ OwnI base w' (.slice ao n c) (l ++ m) ∧ (∀ w0, Below base w0 w → Below base w0 w') ∧ OthT 3 w w' := by
  obtain ⟨i0, hi, hz0, hz1, hz2⟩ := info_parts infoInt
  have ht := Try.underlying23
  obtain ⟨ao, cap, rfl, h1, h2, h3⟩ := hu
  cases ao with
  | none =>
    have hm : m = [] := by
      rcases List.eq_nil_or_concat m with e1 | ⟨m', y, e1⟩
      · exact e1
      · obtain ⟨b, off, e2, _⟩ := h3 (by rw [e1]; simp)
        cases e2
    subst hm
    have hc0 := h2 rfl
    subst hc0
    obtain ⟨av, cv, rfl⟩ := ownShape h
    exact ⟨_, _, _, w, run_append_owned_none (P := Try.prog) w base _ ty _ i0 1 ht hi _ _ _ h, by rw [List.append_nil]; exact h, fun _ hb => hb, OthT.refl _ _⟩
  | some ad =>
    obtain ⟨v', w', hr, g1, g2, _⟩ := run_append_own (P := Try.prog) w base 23 ty 3 i0 _ 1 8 ht hi hz0 hz1 hz2 rfl (by decide) v _ _ h ad m.length cap (flatK encI 1 m.toArray).toList (by simp) (fun j u hj => by
      obtain ⟨hj1, hj2⟩ := List.getElem?_eq_some_iff.1 hj
      have hj3 : j < m.length * 1 := by simpa using hj1
      obtain ⟨b, off, e2, _, hc⟩ := h3 (by intro e; rw [e] at hj3; simp at hj3)
      cases e2
      rw [Go.WideShapes.add_plain, hc j hj3, getElem!_pos _ j (by simpa using hj3), ← hj2]
      simp) (flatK_oneCell encI_one encI_len) (by unfold maxLen; omega) (by omega) hbase
    obtain ⟨av, cv, rfl⟩ := ownShape g1
    refine ⟨_, _, _, w', hr, ?_, (fun w0 hb => hb.grown g2 hbase fun k hk => ownOther h k hk), oth_of h g2⟩
    show w'.ownsRow base 3 1 _ (l ++ m).length (flatK encI 1 (l ++ m).toArray).toList
    rw [List.length_append, flatK_append encI 1 encI_len]
    exact g1
theorem appOI {ops : Array Oper} {rest : List Oper} {o : Oper} {a : Act} {Q : Exit → Act → World → Prop} {w : World} (hgd : o.guard = .none) (s x : Operand)
    (ho : o.op = .call { callee := .builtin .append, args := #[s, x], argTypes := #[23, 23] }) (base : Nat) (v : Value) (l : List Int) (hs : a.eval s = v) (hown : OwnI base w v l)
    (u : Value) (m : List Int) (hx : a.eval x = u) (hu : Row encI 1 w u m) (hl : l.length + m.length < 1000000) (hbase : base ≤ w.heap.size) (lm : List Int) (hlm : l ++ m = lm)
    (h : ∀ ao n c w', OwnI base w' (.slice ao n c) lm → (∀ w0, Below base w0 w → Below base w0 w') → OthT 3 w w' → wpList Try.prog ops Q rest (a.put o.dst (.slice ao n c)) w') : wpList Try.prog ops Q (o :: rest) a w := by
  subst hlm
  refine wpList_plain hgd fun K hK' => ?_
  obtain ⟨ao, n, c, w', hrun, h1, h2, h3⟩ := run_appOI o.type hown hu hl hbase
  unfold Oper.wp
  simp [execOp, ho, resolve, invoke, builtin, hs, hx, hrun, Result.andThen]
  exact hK' _ _ (h ao n c w' h1 h2 h3)

theorem run_appOS {base : Nat} {w : World} {v u : Value} {l m : List ByteArray} (ty : TypeId) (h : OwnS base w v l) (hu : Row encS 1 w u m) (hl : l.length + m.length < 1000000) (hbase : base ≤ w.heap.size) :
    ∃ ao n c w', (Builtin.append_ #[24, 24] ty #[v, u]).run Try.prog w = .ok (.slice ao n c) w' ∧ OwnS base w' (.slice ao n c) (l ++ m) ∧ (∀ w0, Below base w0 w → Below base w0 w') ∧ OthT 9 w w' := by
  obtain ⟨i0, hi, hz0, hz1, hz2⟩ := info_parts infoStr
  have ht := Try.underlying24
  obtain ⟨ao, cap, rfl, h1, h2, h3⟩ := hu
  cases ao with
  | none =>
    have hm : m = [] := by
      rcases List.eq_nil_or_concat m with e1 | ⟨m', y, e1⟩
      · exact e1
      · obtain ⟨b, off, e2, _⟩ := h3 (by rw [e1]; simp)
        cases e2
    subst hm
    have hc0 := h2 rfl
    subst hc0
    obtain ⟨av, cv, rfl⟩ := ownShape h
    exact ⟨_, _, _, w, run_append_owned_none (P := Try.prog) w base _ ty _ i0 1 ht hi _ _ _ h, by rw [List.append_nil]; exact h, fun _ hb => hb, OthT.refl _ _⟩
  | some ad =>
    obtain ⟨v', w', hr, g1, g2, _⟩ := run_append_own (P := Try.prog) w base 24 ty 9 i0 _ 1 16 ht hi hz0 hz1 hz2 rfl (by decide) v _ _ h ad m.length cap (flatK encS 1 m.toArray).toList (by simp) (fun j u hj => by
      obtain ⟨hj1, hj2⟩ := List.getElem?_eq_some_iff.1 hj
      have hj3 : j < m.length * 1 := by simpa using hj1
      obtain ⟨b, off, e2, _, hc⟩ := h3 (by intro e; rw [e] at hj3; simp at hj3)
      cases e2
      rw [Go.WideShapes.add_plain, hc j hj3, getElem!_pos _ j (by simpa using hj3), ← hj2]
      simp) (flatK_oneCell encS_one encS_len) (by unfold maxLen; omega) (by omega) hbase
    obtain ⟨av, cv, rfl⟩ := ownShape g1
    refine ⟨_, _, _, w', hr, ?_, (fun w0 hb => hb.grown g2 hbase fun k hk => ownOther h k hk), oth_of h g2⟩
    show w'.ownsRow base 9 1 _ (l ++ m).length (flatK encS 1 (l ++ m).toArray).toList
    rw [List.length_append, flatK_append encS 1 encS_len]
    exact g1
theorem appOS {ops : Array Oper} {rest : List Oper} {o : Oper} {a : Act} {Q : Exit → Act → World → Prop} {w : World} (hgd : o.guard = .none) (s x : Operand)
    (ho : o.op = .call { callee := .builtin .append, args := #[s, x], argTypes := #[24, 24] }) (base : Nat) (v : Value) (l : List ByteArray) (hs : a.eval s = v) (hown : OwnS base w v l)
    (u : Value) (m : List ByteArray) (hx : a.eval x = u) (hu : Row encS 1 w u m) (hl : l.length + m.length < 1000000) (hbase : base ≤ w.heap.size) (lm : List ByteArray) (hlm : l ++ m = lm)
    (h : ∀ ao n c w', OwnS base w' (.slice ao n c) lm → (∀ w0, Below base w0 w → Below base w0 w') → OthT 9 w w' → wpList Try.prog ops Q rest (a.put o.dst (.slice ao n c)) w') : wpList Try.prog ops Q (o :: rest) a w := by
  subst hlm
  refine wpList_plain hgd fun K hK' => ?_
  obtain ⟨ao, n, c, w', hrun, h1, h2, h3⟩ := run_appOS o.type hown hu hl hbase
  unfold Oper.wp
  simp [execOp, ho, resolve, invoke, builtin, hs, hx, hrun, Result.andThen]
  exact hK' _ _ (h ao n c w' h1 h2 h3)

end Go.Proofs.Ytmamnlphhiaeoaa

/-
  What the walks of both Decode's stand on: rows that grow beside a block that is written; a node whose rows are newer than a base.
-/
import Derived.Test.YtmamnlphhiaeoaaNdDe
import Derived.Test.YtmamnlphhiaeoaaNdRefJ
import Derived.Test.YtmamnlphhiaeoaaNdCode
namespace Go.Proofs.Ytmamnlphhiaeoaa
open Go.Shelf Go.RowKit Go.Lib Go.Sort

/-- Blocks of other types are as they were. -/
def OthC (T : TypeId) (w w' : World) : Prop := ∀ (q : Nat) (cs : Array Value) (t : TypeId), t ≠ T → Cl w q cs t → Cl w' q cs t
theorem OthC.refl (T : TypeId) (w : World) : OthC T w w := fun _ _ _ _ h => h
theorem othC_of {T : TypeId} {w w' : World} {base k n : Nat} {v : Value} {xs : List Value} (h : w.ownsRow base T k v n xs) (g : w.grownBy w' v.ownBlock) : OthC T w w' := by
  intro q cs t hne hc
  refine (g.block q hc.lt ?_).trans hc
  rcases h.2 with ⟨rfl, _⟩ | ⟨b, cap, cur, rfl, _, hb, _⟩
  · simp [Value.ownBlock]
  · simp only [Value.ownBlock, ne_eq, Option.some.injEq]
    intro e
    subst e
    unfold Cl at hc
    rw [hc] at hb
    injection hb with hb
    injection hb with _ h2
    exact hne h2

theorem flatOne_I (x : Int) : (flatK encI 1 [x].toArray).toList = [.int .i64 x] := flatI1 x
theorem run_app1I {base : Nat} {w : World} {v : Value} {l : List Int} {q : Nat} {x : Int} {t : TypeId} (ty : TypeId) (h : OwnI base w v l) (hu : Cl w q #[.int .i64 x] t) (hl : l.length < 100000) (hbase : base ≤ w.heap.size) :
    ∃ ao n c w', (Builtin.append_ #[23, 23] ty #[v, .slice (some ⟨q, 0, none⟩) 1 1]).run Try.prog w = .ok (.slice ao n c) w' ∧ OwnI base w' (.slice ao n c) (l ++ [x]) ∧ (∀ w0, Below base w0 w → Below base w0 w') ∧ OthT 3 w w' ∧ OthC 3 w w' := by
  obtain ⟨i0, hi, hz0, hz1, hz2⟩ := info_parts infoInt
  have ht := Try.underlying23
  obtain ⟨v', w', hr, g1, g2, _⟩ := run_append_own (P := Try.prog) w base 23 ty 3 i0 _ 1 8 ht hi hz0 hz1 hz2 rfl (by decide) v _ _ h ⟨q, 0, none⟩ 1 1 (flatK encI 1 [x].toArray).toList (by simp) (fun j u hj => by
    rw [flatI1] at hj
    obtain ⟨hj1, hj2⟩ := List.getElem?_eq_some_iff.1 hj
    have hj3 : j = 0 := by simpa using hj1
    subst hj3
    rw [Go.WideShapes.add_plain, hu.cell]
    simp only [Nat.add_zero]
    rw [← hj2]
    rfl) (flatK_oneCell encI_one encI_len) (by unfold maxLen; omega) (by omega) hbase
  obtain ⟨av, cv, rfl⟩ := ownShape g1
  refine ⟨_, _, _, w', hr, ?_, (fun w0 hb => hb.grown g2 hbase fun k hk => ownOther h k hk), oth_of h g2, othC_of h g2⟩
  show w'.ownsRow base 3 1 _ (l ++ [x]).length (flatK encI 1 (l ++ [x]).toArray).toList
  rw [List.length_append, flatK_append encI 1 encI_len]
  exact g1
theorem step1I {ops : Array Oper} {o : Oper} {a : Act} {K : Act → World → Prop} {Q : Exit → Act → World → Prop} {E : Prop} {w : World} (hg : o.guard = none) (s x : Operand)
    (ho : o.op = .call { callee := .builtin .append, args := #[s, x], argTypes := #[23, 23] }) (base : Nat) (v : Value) (l : List Int) (hs : a.eval s = v) (hown : OwnI base w v l)
    (q : Nat) (y : Int) (t : TypeId) (hx : a.eval x = .slice (some ⟨q, 0, none⟩) 1 1) (hu : Cl w q #[.int .i64 y] t) (hl : l.length < 100000) (hbase : base ≤ w.heap.size) (lm : List Int) (hlm : l ++ [y] = lm)
    (h : ∀ ao n c w', OwnI base w' (.slice ao n c) lm → (∀ w0, Below base w0 w → Below base w0 w') → OthT 3 w w' → OthC 3 w w' → K (a.put o.dst (.slice ao n c)) w') :
    if Region.wanted o (yielded ops a.tmps) = true then Oper.wp Try.prog o a w K Q else E := by
  subst hlm
  have hw : Region.wanted o (yielded ops a.tmps) = true := by simp [Region.wanted, hg]
  rw [if_pos hw]
  obtain ⟨ao, n, c, w', hrun, h1, h2, h3, h4⟩ := run_app1I o.type hown hu hl hbase
  unfold Oper.wp execOp
  simp only [ho, resolve, invoke, builtin, Sem.run_bind, Sem.run_pure, Result.andThen_ok, List.map_toArray, List.map_cons, List.map_nil, hs, hx, hrun]
  exact h ao n c w' h1 h2 h3 h4
theorem run_app1S {base : Nat} {w : World} {v : Value} {l : List ByteArray} {q : Nat} {x : ByteArray} {t : TypeId} (ty : TypeId) (h : OwnS base w v l) (hu : Cl w q #[.string x] t) (hl : l.length < 100000) (hbase : base ≤ w.heap.size) :
    ∃ ao n c w', (Builtin.append_ #[24, 24] ty #[v, .slice (some ⟨q, 0, none⟩) 1 1]).run Try.prog w = .ok (.slice ao n c) w' ∧ OwnS base w' (.slice ao n c) (l ++ [x]) ∧ (∀ w0, Below base w0 w → Below base w0 w') ∧ OthT 9 w w' ∧ OthC 9 w w' := by
  obtain ⟨i0, hi, hz0, hz1, hz2⟩ := info_parts infoStr
  have ht := Try.underlying24
  obtain ⟨v', w', hr, g1, g2, _⟩ := run_append_own (P := Try.prog) w base 24 ty 9 i0 _ 1 16 ht hi hz0 hz1 hz2 rfl (by decide) v _ _ h ⟨q, 0, none⟩ 1 1 (flatK encS 1 [x].toArray).toList (by simp) (fun j u hj => by
    rw [flatS1] at hj
    obtain ⟨hj1, hj2⟩ := List.getElem?_eq_some_iff.1 hj
    have hj3 : j = 0 := by simpa using hj1
    subst hj3
    rw [Go.WideShapes.add_plain, hu.cell]
    simp only [Nat.add_zero]
    rw [← hj2]
    rfl) (flatK_oneCell encS_one encS_len) (by unfold maxLen; omega) (by omega) hbase
  obtain ⟨av, cv, rfl⟩ := ownShape g1
  refine ⟨_, _, _, w', hr, ?_, (fun w0 hb => hb.grown g2 hbase fun k hk => ownOther h k hk), oth_of h g2, othC_of h g2⟩
  show w'.ownsRow base 9 1 _ (l ++ [x]).length (flatK encS 1 (l ++ [x]).toArray).toList
  rw [List.length_append, flatK_append encS 1 encS_len]
  exact g1
theorem step1S {ops : Array Oper} {o : Oper} {a : Act} {K : Act → World → Prop} {Q : Exit → Act → World → Prop} {E : Prop} {w : World} (hg : o.guard = none) (s x : Operand)
    (ho : o.op = .call { callee := .builtin .append, args := #[s, x], argTypes := #[24, 24] }) (base : Nat) (v : Value) (l : List ByteArray) (hs : a.eval s = v) (hown : OwnS base w v l)
    (q : Nat) (y : ByteArray) (t : TypeId) (hx : a.eval x = .slice (some ⟨q, 0, none⟩) 1 1) (hu : Cl w q #[.string y] t) (hl : l.length < 100000) (hbase : base ≤ w.heap.size) (lm : List ByteArray) (hlm : l ++ [y] = lm)
    (h : ∀ ao n c w', OwnS base w' (.slice ao n c) lm → (∀ w0, Below base w0 w → Below base w0 w') → OthT 9 w w' → OthC 9 w w' → K (a.put o.dst (.slice ao n c)) w') :
    if Region.wanted o (yielded ops a.tmps) = true then Oper.wp Try.prog o a w K Q else E := by
  subst hlm
  have hw : Region.wanted o (yielded ops a.tmps) = true := by simp [Region.wanted, hg]
  rw [if_pos hw]
  obtain ⟨ao, n, c, w', hrun, h1, h2, h3, h4⟩ := run_app1S o.type hown hu hl hbase
  unfold Oper.wp execOp
  simp only [ho, resolve, invoke, builtin, Sem.run_bind, Sem.run_pure, Result.andThen_ok, List.map_toArray, List.map_cons, List.map_nil, hs, hx, hrun]
  exact h ao n c w' h1 h2 h3 h4

theorem op1I {o : Oper} {a : Act} {K : Act → World → Prop} {Q : Exit → Act → World → Prop} {w : World} (s x : Operand)
    (ho : o.op = .call { callee := .builtin .append, args := #[s, x], argTypes := #[23, 23] }) (base : Nat) (v : Value) (l : List Int) (hs : a.eval s = v) (hown : OwnI base w v l)
    (q : Nat) (y : Int) (t : TypeId) (hx : a.eval x = .slice (some ⟨q, 0, none⟩) 1 1) (hu : Cl w q #[.int .i64 y] t) (hl : l.length < 100000) (hbase : base ≤ w.heap.size) (lm : List Int) (hlm : l ++ [y] = lm)
    (h : ∀ ao n c w', OwnI base w' (.slice ao n c) lm → (∀ w0, Below base w0 w → Below base w0 w') → OthT 3 w w' → OthC 3 w w' → K (a.put o.dst (.slice ao n c)) w') : Oper.wp Try.prog o a w K Q := by
  subst hlm
  obtain ⟨ao, n, c, w', hrun, h1, h2, h3, h4⟩ := run_app1I o.type hown hu hl hbase
  unfold Oper.wp execOp
  simp only [ho, resolve, invoke, builtin, Sem.run_bind, Sem.run_pure, Result.andThen_ok, List.map_toArray, List.map_cons, List.map_nil, hs, hx, hrun]
  exact h ao n c w' h1 h2 h3 h4
theorem op1S {o : Oper} {a : Act} {K : Act → World → Prop} {Q : Exit → Act → World → Prop} {w : World} (s x : Operand)
    (ho : o.op = .call { callee := .builtin .append, args := #[s, x], argTypes := #[24, 24] }) (base : Nat) (v : Value) (l : List ByteArray) (hs : a.eval s = v) (hown : OwnS base w v l)
    (q : Nat) (y : ByteArray) (t : TypeId) (hx : a.eval x = .slice (some ⟨q, 0, none⟩) 1 1) (hu : Cl w q #[.string y] t) (hl : l.length < 100000) (hbase : base ≤ w.heap.size) (lm : List ByteArray) (hlm : l ++ [y] = lm)
    (h : ∀ ao n c w', OwnS base w' (.slice ao n c) lm → (∀ w0, Below base w0 w → Below base w0 w') → OthT 9 w w' → OthC 9 w w' → K (a.put o.dst (.slice ao n c)) w') : Oper.wp Try.prog o a w K Q := by
  subst hlm
  obtain ⟨ao, n, c, w', hrun, h1, h2, h3, h4⟩ := run_app1S o.type hown hu hl hbase
  unfold Oper.wp execOp
  simp only [ho, resolve, invoke, builtin, Sem.run_bind, Sem.run_pure, Result.andThen_ok, List.map_toArray, List.map_cons, List.map_nil, hs, hx, hrun]
  exact h ao n c w' h1 h2 h3 h4

theorem ownOnly {base b : Nat} {w w' : World} {e : TypeId} {k : Nat} {v : Value} {n : Nat} {xs : List Value} (h : w.ownsRow base e k v n xs) (ho : Only b w w') (hb : b < base) : w'.ownsRow base e k v n xs := by
  refine ⟨h.1, ?_⟩
  rcases h.2 with h2 | ⟨g, cap, cur, hv, hg, hh, r⟩
  · exact Or.inl h2
  · exact Or.inr ⟨g, cap, cur, hv, hg, by rw [ho.block g (by omega)]; exact hh, r⟩
theorem clOnly {b q : Nat} {w w' : World} {cs : Array Value} {t : TypeId} (h : Cl w q cs t) (ho : Only b w w') (hb : q ≠ b) : Cl w' q cs t := (ho.block q hb).trans h
theorem own1T {base q i : Nat} {w : World} {e t : TypeId} {k : Nat} {v x : Value} {n : Nat} {xs : List Value} {cs : Array Value} (h : w.ownsRow base e k v n xs) (hc : Cl w q cs t) (hne : t ≠ e) : (w.setCell ⟨q, i, none⟩ x).ownsRow base e k v n xs := by
  refine ⟨h.1, ?_⟩
  rcases h.2 with h2 | ⟨g, cap, cur, hv, hg, hh, r⟩
  · exact Or.inl h2
  · refine Or.inr ⟨g, cap, cur, hv, hg, ?_, r⟩
    have hgq : g ≠ q := by
      intro e1
      subst e1
      unfold Cl at hc
      rw [hc] at hh
      injection hh with hh
      injection hh with h1 h2
      exact hne h2
    rw [Below.heap_setCell _ _ _ _ hgq]
    exact hh
theorem Rd.cl {b : Nat} {s : ByteArray} {e : Int} {w : World} (h : Rd b s e w) : Cl w b #[.string s, .int .i64 e] 102 := h.blk
theorem Rd.of {b : Nat} {s : ByteArray} {e : Int} {w w' : World} (h : Rd b s e w) (hc : Cl w' b #[.string s, .int .i64 e] 102) : Rd b s e w' := ⟨hc, h.sz⟩
theorem clSetNe {w : World} {q b i : Nat} {cs : Array Value} {t : TypeId} (h : Cl w q cs t) (c : b ≠ q) (x : Value) : Cl (w.setCell ⟨b, i, none⟩ x) q cs t := by
  unfold Cl at h ⊢
  simp [World.setCell, Array.getElem?_modify, c, h]

/-- A node whose rows are newer than base. -/
structure NdW (base : Nat) (w : World) (ve vk vs : Value) (n : Nd) : Prop where
  e : Own encP 2 base w ve n.es
  k : Own encI 1 base w vk n.ks
  s : Own encS 1 base w vs n.ss
theorem NdO.w {base : Nat} {w : World} {ve vk vs : Value} {n : Nd} (h : NdO base w ve vk vs n) : NdW base w ve vk vs n := ⟨own_of_owns (by decide) h.e, own_of_owns (by decide) h.k, own_of_owns (by decide) h.s⟩
theorem NdW.r {base : Nat} {w : World} {ve vk vs : Value} {n : Nd} (h : NdW base w ve vk vs n) : NdR w ve vk vs n := ⟨h.e.row, h.k.row, h.s.row⟩
theorem NdW.mono {base base' : Nat} {w : World} {ve vk vs : Value} {n : Nd} (h : NdW base w ve vk vs n) (hb : base' ≤ base) : NdW base' w ve vk vs n := ⟨h.e.mono hb, h.k.mono hb, h.s.mono hb⟩
theorem NdW.below {base : Nat} {w w' : World} {ve vk vs : Value} {n : Nd} (h : NdW base w ve vk vs n) (hb : Below w.heap.size w w') : NdW base w' ve vk vs n := ⟨h.e.below hb, h.k.below hb, h.s.below hb⟩
theorem NdW.zero (base : Nat) (w : World) : NdW base w (.slice none 0 0) (.slice none 0 0) (.slice none 0 0) nd0 := ⟨Own.nil, Own.nil, Own.nil⟩
theorem ownSetB {α : Type} [Inhabited α] {enc : α → List Value} {k base q i : Nat} {w : World} {v x : Value} {l : List α} (h : Own enc k base w v l) (hq : q < base) : Own enc k base (w.setCell ⟨q, i, none⟩ x) v l := by
  obtain ⟨ao, cap, e, h1, h2, h3⟩ := h
  refine ⟨ao, cap, e, h1, h2, fun hne => ?_⟩
  obtain ⟨b, off, e2, hb, hlt, hh⟩ := h3 hne
  have hbq : b ≠ q := by omega
  refine ⟨b, off, e2, hb, by simpa using hlt, fun t ht => ?_⟩
  have hbk := Below.heap_setCell w ⟨q, i, none⟩ x b hbq
  have := hh t ht
  rwa [← World.cell?_of_block (w := w) (w' := w.setCell ⟨q, i, none⟩ x) (a := ⟨b, off + t, none⟩) hbk, ← World.frozen?_of_block (w := w) (w' := w.setCell ⟨q, i, none⟩ x) (a := ⟨b, off + t, none⟩) hbk] at this
theorem NdW.set4 {base q : Nat} {w : World} {ve vk vs a b c d : Value} {n : Nd} (h : NdW base w ve vk vs n) (hq : q < base) : NdW base (Go.Proofs.Ytmamnlphhiaeoaa.set4 w q a b c d) ve vk vs n :=
  ⟨ownSetB (ownSetB (ownSetB (ownSetB h.e hq) hq) hq) hq, ownSetB (ownSetB (ownSetB (ownSetB h.k hq) hq) hq) hq, ownSetB (ownSetB (ownSetB (ownSetB h.s hq) hq) hq) hq⟩

/-- What a function answers that has a struct and a value as its results. -/
theorem results_ct {fn : Func} {p q : Tmp} {ty : TypeId} (h : fn.results = #[.cell p ty, .tmp q]) (tmps : Array Value) (P : Program) (w : World) :
    (results fn tmps).run P w = ((asAddr (tmps.getD p undef)).run P w).andThen fun a w₁ => ((loadVar ty a).run P w₁).andThen fun x w₂ => .ok (.tuple #[x, tmps.getD q undef]) w₂ := by
  simp only [results, h]
  simp [Sem.run_bind, Result.andThen]

/-- What Decode answers. -/
def GvD (w : World) (kind : Int) (S : List UInt8) (e : Ending) (w' : World) : Prop :=
  ∃ ve vk vs, e = .returned (.tuple #[.agg #[.bool (deR kind S).leaf, ve, vk, vs], .int .i64 (deE2 (deO kind S))]) ∧ NdW w.heap.size w' ve vk vs (deR kind S) ∧ Below w.heap.size w w'

end Go.Proofs.Ytmamnlphhiaeoaa

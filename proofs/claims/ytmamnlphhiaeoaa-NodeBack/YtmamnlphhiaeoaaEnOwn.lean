/-
  append at rows of entries, also at a row that has no room and is of the caller's memory; parts of a row; blocks of two texts.
-/
import Derived.Test.YtmamnlphhiaeoaaEnMem
import Derived.ArgAppend
import Derived.Deep.RegionLaw
import Derived.Laws.OwnMore
namespace Go.Proofs.Ytmamnlphhiaeoaa
open Go.Shelf Go.RowKit Go.Lib Go.Sort

section
variable {w w' : World} {q i k : Nat} {cs : Array Value} {t : TypeId}
/-- Block q holds these cells. -/
def Cl (w : World) (q : Nat) (cs : Array Value) (t : TypeId) : Prop := w.heap[q]? = some (.cells cs t (0, 0))
theorem Cl.lt (h : Cl w q cs t) : q < w.heap.size := (Array.getElem?_eq_some_iff.1 h).1
theorem Cl.cell (h : Cl w q cs t) (i : Nat) : w.cell? ⟨q, i, none⟩ = cs[i]? := by unfold Cl at h; simp [World.cell?, h]
theorem Cl.new (w : World) (cs : Array Value) (t : TypeId) : Cl (w.alloc (.cells cs t)) w.heap.size cs t := by
  show (w.heap.push _)[w.heap.size]? = _; simp
theorem Cl.below {B : Nat} (h : Cl w q cs t) (b : Below B w w') (hq : q < B) : Cl w' q cs t := (b.block q hq).trans h
theorem Cl.on (h : Cl w q cs t) (b : Below w.heap.size w w') : Cl w' q cs t := h.below b h.lt
theorem Cl.alloc (h : Cl w q cs t) (o : Obj) : Cl (w.alloc o) q cs t := h.on ((Below.refl _ _).alloc (Nat.le_refl _) _)
theorem Cl.two {a b : Value} (h : Cl w q #[a, b] t) : w.cell? ⟨q, 0, none⟩ = some a ∧ w.cell? ⟨q, 1, none⟩ = some b := ⟨h.cell 0, h.cell 1⟩
end

theorem flat_one (x : En) : #[Value.string x.1, Value.string x.2] = flatK encP 2 [x].toArray := by
  apply Array.ext'
  have := flatK_snoc encP 2 encP_len [] x
  rw [List.nil_append] at this
  rw [this]
  simp [flatK, encP]

theorem Cl.row {w : World} {q : Nat} {x : En} {t : TypeId} (h : Cl w q #[.string x.1, .string x.2] t) : Row encP 2 w (.slice (some ⟨q, 0, none⟩) 1 1) [x] :=
  row_block h (flat_one x) rfl

theorem Row.shape {w : World} {v : Value} {l : List En} (h : Row encP 2 w v l) : ∃ ao c, v = .slice ao l.length c ∧ l.length ≤ c := by
  obtain ⟨ao, cap, rfl, h1, _⟩ := h
  exact ⟨ao, cap, rfl, h1⟩

/-- A row's part. -/
theorem Row.part {w : World} {ao : Option Addr} {n c : Nat} {l : List En} (h : Row encP 2 w (.slice ao n c) l) (i j m : Nat) (hm : j = i + m) (hj : j ≤ l.length) (ao' : Option Addr) (hao : ∀ b off, ao = some ⟨b, off, none⟩ → m ≠ 0 → ao' = some ⟨b, off + i * 2, none⟩) (c' : Nat) (hc : m ≤ c') (hz : ao' = none → c' = 0) :
    Row encP 2 w (.slice ao' m c') ((l.drop i).take m) := by
  obtain ⟨ao1, cap, e, h1, h2, h3⟩ := h
  cases e
  have hlen : ((l.drop i).take m).length = m := by simp; omega
  refine ⟨ao', c', by rw [hlen], by rw [hlen]; exact hc, hz, fun hne => ?_⟩
  have hm0 : m ≠ 0 := by intro e; subst e; simp at hne
  obtain ⟨b, off, e, hlt, hcell⟩ := h3 (by intro e; subst e; simp at hj; omega)
  refine ⟨b, off + i * 2, hao b off e hm0, hlt, fun t ht => ?_⟩
  rw [hlen] at ht
  rw [Nat.add_assoc, hcell (i * 2 + t) (by omega), get_flatK _ _ _ _ (by simp; omega), get_flatK _ _ _ _ (by simp; omega)]
  have e1 : (i * 2 + t) / 2 = i + t / 2 := by omega
  have e2 : (i * 2 + t) % 2 = t % 2 := by omega
  rw [e1, e2, getElem!_pos l.toArray (i + t / 2) (by simp; omega), getElem!_pos ((l.drop i).take m).toArray (t / 2) (by simp; omega)]
  simp

/-- A row of the call's own, or an empty one without room. -/
def OwnZ (base : Nat) (w : World) (v : Value) (l : List En) : Prop := OwnP base w v l ∨ (l = [] ∧ ∃ ad, v = .slice (some ad) 0 0)

theorem OwnZ.own {base : Nat} {w : World} {v : Value} {l : List En} (h : OwnZ base w v l) : Own encP 2 base w v l := by
  rcases h with h | ⟨rfl, ad, rfl⟩
  · exact h.own
  · exact ⟨some ad, 0, rfl, Nat.le_refl _, (fun h => by cases h), fun h => absurd rfl h⟩
theorem OwnZ.empty (base : Nat) (w : World) (ao : Option Addr) : OwnZ base w (.slice ao 0 0) [] := by
  cases ao with
  | none => exact Or.inl (OwnP.empty _ _)
  | some ad => exact Or.inr ⟨rfl, ad, rfl⟩
theorem OwnZ.below {base : Nat} {w w' : World} {v : Value} {l : List En} (h : OwnZ base w v l) (hb : Below w.heap.size w w') : OwnZ base w' v l := by
  rcases h with h | h
  · exact Or.inl (ownsRow_below h hb)
  · exact Or.inr h
theorem OwnZ.mono {base base' : Nat} {w : World} {v : Value} {l : List En} (h : OwnZ base w v l) (hb : base' ≤ base) : OwnZ base' w v l := by
  rcases h with h | h
  · left
    refine ⟨h.1, ?_⟩
    rcases h.2 with h2 | ⟨g, cap, cur, hv, hg, r⟩
    · exact Or.inl h2
    · exact Or.inr ⟨g, cap, cur, hv, Nat.le_trans hb hg, r⟩
  · exact Or.inr h

theorem own_shape {base : Nat} {w : World} {v : Value} {n : Nat} {xs : List Value} (h : w.ownsRow base 56 2 v n xs) : ∃ ao c, v = .slice ao n c := by
  rcases h.2 with ⟨h, h2⟩ | ⟨g, cap, cur, h, _⟩
  · rw [h2]; exact ⟨_, _, h⟩
  · exact ⟨_, _, h⟩

theorem OwnP.other' {base : Nat} {W : World} {v : Value} {n : Nat} {xs : List Value} (h : W.ownsRow base 56 2 v n xs) : ∀ k, v.ownBlock = some k → base ≤ k := by
  intro k hk
  rcases row_of_owns h with hr | ⟨r, hr, hle⟩
  · rw [hr] at hk; cases hk
  · rw [hr] at hk; cases hk; exact hle

/-- What append does there. -/
theorem run_app_z {base : Nat} {w : World} {v u : Value} {l m : List En} (ty : TypeId) (h : OwnZ base w v l) (hu : Row encP 2 w u m) (hl : l.length + m.length < 1000000) (hbase : base ≤ w.heap.size) :
    ∃ ao n c w', (Builtin.append_ #[22, 22] ty #[v, u]).run Try.prog w = .ok (.slice ao n c) w' ∧ OwnZ base w' (.slice ao n c) (l ++ m) ∧ (∀ w0, Below base w0 w → Below base w0 w') := by
  obtain ⟨i0, hi, hz0, hz1, hz2⟩ := info_parts infoPair
  have ht := Try.underlying22
  obtain ⟨ao, cap, rfl, h1, h2, h3⟩ := hu
  have news : ∀ ad, ao = some ad → ∀ j u, (flatK encP 2 m.toArray).toList[j]? = some u → w.cell? (ad.add j) = some u := by
    intro ad e j u hj
    obtain ⟨hj1, hj2⟩ := List.getElem?_eq_some_iff.1 hj
    have hj3 : j < m.length * 2 := by simpa using hj1
    obtain ⟨b, off, e2, _, hc⟩ := h3 (by intro e; rw [e] at hj3; simp at hj3)
    rw [e] at e2
    cases e2
    rw [Go.WideShapes.add_plain, hc j hj3, getElem!_pos _ j (by simpa using hj3), ← hj2]
    simp
  have mnil : ao = none → m = [] := by
    intro e
    rcases List.eq_nil_or_concat m with e1 | ⟨m', y, e1⟩
    · exact e1
    · obtain ⟨b, off, e2, _⟩ := h3 (by rw [e1]; simp)
      rw [e] at e2; cases e2
  rcases h with h | ⟨rfl, ad0, rfl⟩
  · cases ao with
    | none =>
      have hm := mnil rfl
      subst hm
      have hc0 := h2 rfl
      subst hc0
      obtain ⟨av, cv, rfl⟩ := own_shape h
      exact ⟨_, _, _, w, run_append_owned_none (P := Try.prog) w base _ ty _ i0 2 ht hi _ _ _ h, by rw [List.append_nil]; exact Or.inl h, fun _ hb => hb⟩
    | some ad =>
      obtain ⟨v', w', hr, g1, g2, _⟩ := run_append_own (P := Try.prog) w base 22 ty 56 i0 _ 2 32 ht hi hz0 hz1 hz2 rfl (by decide) v _ _ h ad m.length cap (flatK encP 2 m.toArray).toList (by simp) (news ad rfl) (flatK_oneCell encP_one encP_len) (by unfold maxLen; omega) (by omega) hbase
      obtain ⟨av, cv, rfl⟩ := own_shape g1
      refine ⟨_, _, _, w', hr, Or.inl ?_, fun w0 hb => hb.grown g2 hbase fun k hk => OwnP.other' h k hk⟩
      show w'.ownsRow base 56 2 _ (l ++ m).length (flatK encP 2 (l ++ m).toArray).toList
      rw [List.length_append, flatK_append encP 2 encP_len]
      exact g1
  · by_cases hm : m = []
    · subst hm
      refine ⟨some ad0, 0, 0, w, ?_, Or.inr ⟨rfl, ad0, rfl⟩, fun _ hb => hb⟩
      cases ao with
      | none => simp [Builtin.append_, run_underlying ht, sizeOf, typeInfo, hi, Builtin.lenOf, Builtin.firstCells, storeCells]
      | some ad =>
        have hfc := run_firstCells_some (P := Try.prog) w i0.size 0 ad 0 cap [] (by simp) (fun j u hj => by simp at hj)
        simp [Builtin.append_, run_underlying ht, sizeOf, typeInfo, hi, Builtin.lenOf, hfc, storeCells]
    · have hpos : 0 < m.length := List.length_pos_iff.2 hm
      cases ao with
      | none => exact absurd (mnil rfl) hm
      | some ad =>
        obtain ⟨v', w', hr, g1, g2⟩ := run_append_arg_grows (P := Try.prog) w 22 ty 56 i0 _ 2 32 ht hi hz0 hz1 hz2 rfl (by decide) ad0 0 0 [] (by simp) (by intro j u hj; simp at hj) ad m.length cap (flatK encP 2 m.toArray).toList (by simp) (news ad rfl) (by omega) (by unfold maxLen; omega) (by omega)
        obtain ⟨av, cv, rfl⟩ := own_shape g1
        refine ⟨_, _, _, w', hr, Or.inl ?_, fun w0 hb => hb.grown g2 hbase fun k hk => by cases hk⟩
        have g3 : w'.ownsRow w.heap.size 56 2 (.slice av (0 + m.length) cv) m.length (flatK encP 2 m.toArray).toList := by
          have e : 0 + m.length = m.length := Nat.zero_add _
          rw [e] at g1 ⊢
          simpa using g1
        rcases OwnZ.mono (Or.inl g3) hbase with g4 | ⟨g4, _⟩
        · exact g4
        · exact absurd g4 hm

/-- append, as the walk meets it. -/
theorem app_z {ops : Array Oper} {rest : List Oper} {o : Oper} {a : Act} {Q : Exit → Act → World → Prop} {w : World} (hgd : o.guard = .none) (s x : Operand)
    (ho : o.op = .call { callee := .builtin .append, args := #[s, x], argTypes := #[22, 22] }) (base : Nat) (v : Value) (l : List En) (hs : a.eval s = v) (hown : OwnZ base w v l)
    (u : Value) (m : List En) (hx : a.eval x = u) (hu : Row encP 2 w u m) (hl : l.length + m.length < 1000000) (hbase : base ≤ w.heap.size) (lm : List En) (hlm : l ++ m = lm)
    (h : ∀ ao n c w', OwnZ base w' (.slice ao n c) lm → (∀ w0, Below base w0 w → Below base w0 w') → wpList Try.prog ops Q rest (a.put o.dst (.slice ao n c)) w') : wpList Try.prog ops Q (o :: rest) a w := by
  subst hlm
  refine wpList_plain hgd fun K hK' => ?_
  obtain ⟨ao, n, c, w', hrun, h1, h2⟩ := run_app_z o.type hown hu hl hbase
  unfold Oper.wp
  simp [execOp, ho, resolve, invoke, builtin, hs, hx, hrun, Result.andThen]
  exact hK' _ _ (h ao n c w' h1 h2)

/-- append, as one step of a region that draws its order. -/
theorem step_z {ops : Array Oper} {o : Oper} {a : Act} {K : Act → World → Prop} {Q : Exit → Act → World → Prop} {E : Prop} {w : World} (hg : o.guard = none) (s x : Operand)
    (ho : o.op = .call { callee := .builtin .append, args := #[s, x], argTypes := #[22, 22] }) (base : Nat) (v : Value) (l : List En) (hs : a.eval s = v) (hown : OwnZ base w v l)
    (u : Value) (m : List En) (hx : a.eval x = u) (hu : Row encP 2 w u m) (hl : l.length + m.length < 1000000) (hbase : base ≤ w.heap.size) (lm : List En) (hlm : l ++ m = lm)
    (h : ∀ ao n c w', OwnZ base w' (.slice ao n c) lm → (∀ w0, Below base w0 w → Below base w0 w') → K (a.put o.dst (.slice ao n c)) w') :
    if Region.wanted o (yielded ops a.tmps) = true then Oper.wp Try.prog o a w K Q else E := by
  subst hlm
  have hw : Region.wanted o (yielded ops a.tmps) = true := by simp [Region.wanted, hg]
  rw [if_pos hw]
  obtain ⟨ao, n, c, w', hrun, h1, h2⟩ := run_app_z o.type hown hu hl hbase
  unfold Oper.wp execOp
  simp only [ho, resolve, invoke, builtin, Sem.run_bind, Sem.run_pure, Result.andThen_ok, List.map_toArray, List.map_cons, List.map_nil, hs, hx, hrun]
  exact h ao n c w' h1 h2

end Go.Proofs.Ytmamnlphhiaeoaa

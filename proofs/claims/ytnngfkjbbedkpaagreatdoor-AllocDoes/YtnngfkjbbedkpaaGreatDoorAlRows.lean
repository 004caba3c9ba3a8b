/-
  Rows of runs and of numbers that lie apart: appended to, read; package runs' Minus, in memory of its own.
-/
import Derived.Test.YtnngfkjbbedkpaaGreatDoorAlWorks
namespace Go.Proofs.YtnngfkjbbedkpaaGreatDoor
open Go.Shelf Go.RowKit Go.Lib Go.Sort
set_option linter.unusedVariables false

theorem OwnP.mono' {base base' : Nat} {W : World} {v : Value} {l : List Pr} (h : OwnP base W v l) (hb : base' ≤ base) : OwnP base' W v l := by
  refine ⟨h.1, ?_⟩
  rcases h.2 with h2 | ⟨g, cap, cur, hv, hg, r⟩
  · exact Or.inl h2
  · exact Or.inr ⟨g, cap, cur, hv, Nat.le_trans hb hg, r⟩

theorem OwnP.shape {base : Nat} {W : World} {v : Value} {l : List Pr} (h : OwnP base W v l) : ∃ ao c, v = .slice ao l.length c ∧ (ao = none ∨ ∃ g o, ao = some ⟨g, o, none⟩) := by
  rcases h.2 with ⟨e, e2⟩ | ⟨g, cap, cur, e, _⟩
  · exact ⟨none, 0, by rw [e, e2], .inl rfl⟩
  · exact ⟨_, _, e, .inr ⟨_, _, rfl⟩⟩

/-- A row of runs, in a block of its own, or none. -/
def RunR (v : Value) (s : List Pr) : Res := fun w X => OwnP 0 w v s ∧ ∀ k, X k ↔ v.ownBlock = some k
theorem good_run (v : Value) (s : List Pr) : Good (RunR v s) :=
  ⟨fun w w' X h hk _ => ⟨ownsRow_kept' h.1 (fun k hk' => hk k ((h.2 k).2 hk')), h.2⟩, fun w X h k hk => (h.1.lt k ((h.2 k).1 hk)).2⟩
section
variable {B : Nat} {w0 w w' : World} {l : List Res} {v : Value} {s : List Pr}
theorem Sep.run (h : Sep B w0 w (RunR v s :: l)) : OwnP 0 w v s := by
  obtain ⟨_, _, Y, ⟨_, X, _, ha, _⟩, _⟩ := h; exact ha.1
theorem Sep.addRun (h : Sep B w0 w l) (hb : Below w.heap.size w w') (o : OwnP w.heap.size w' v s) : Sep B w0 w' (RunR v s :: l) :=
  h.add hb (good_run _ _) (X := fun k => v.ownBlock = some k) ⟨o.mono' (Nat.zero_le _), fun _ => Iff.rfl⟩ (fun k hk => by
    rcases o.2 with ⟨e, _⟩ | ⟨g, cap, cur, e, hg, _⟩
    · rw [e] at hk; simp [Value.ownBlock] at hk
    · rw [e] at hk; simp [Value.ownBlock] at hk; omega)
end


section
variable {B : Nat} {w0 w : World} {l : List Res}
/-- A row of numbers that lies apart, as one that can be read. -/
theorem Sep.introw {v : Value} {ids : List Int} (h : Sep B w0 w (RowR 3 v (ids.map (Value.int .i64)) :: l)) : IntRow w v ids := by
  by_cases hk : ids = []
  · subst hk
    obtain ⟨ao, cp, e⟩ := h.shape
    exact ⟨ao, cp, e, fun hne => absurd rfl hne⟩
  · have hpos : 0 < ids.length := List.length_pos_iff.2 hk
    obtain ⟨r, cp, e, _, hr, _, _⟩ := h.cell (j := 0) (by simpa using hpos)
    refine ⟨some ⟨r, 0, none⟩, cp, by rw [e]; simp, fun _ => ⟨r, 0, rfl, hr, fun j hj => ?_⟩⟩
    obtain ⟨r2, cp2, e2, _, _, hc, _⟩ := h.cell (j := j) (by simpa using hj)
    rw [e] at e2
    cases e2
    rw [Nat.zero_add, hc]
    simp [List.getD_eq_getElem?_getD, hj]
end

section
variable {B : Nat} {w0 w w' : World} {l : List Res}
theorem Sep.appendedRun {v v' : Value} {s ps : List Pr} (h : Sep B w0 w (RunR v s :: l)) (h2 : OwnP 0 w' v' (s ++ ps)) (hg : w.grownBy w' v.ownBlock) (hloc : v'.ownBlock = v.ownBlock ∨ v'.ownBlock = some w.heap.size) : Sep B w0 w' (RunR v' (s ++ ps) :: l) := by
  refine h.step (good_run _ _) fun X hX => ⟨fun k => v'.ownBlock = some k, ⟨h2, fun k => Iff.rfl⟩, Turn.grown hg (fun k hk => (hX.2 k).2 hk), fun k hk => ?_⟩
  rcases hloc with e1 | e1
  · exact .inl ((hX.2 k).2 (e1 ▸ hk))
  · rw [e1] at hk
    exact .inr (Nat.le_of_eq (Option.some.inj hk))
end

section
variable {ops : Array Oper} {rest : List Oper} {o : Oper} {a : Act} {Q : Exit → Act → World → Prop} {B : Nat} {w0 w : World} {l : List Res}
theorem app_runs (hgd : o.guard = .none) (s x : Operand) (ho : o.op = .call { callee := .builtin .append, args := #[s, x], argTypes := #[22, 22] }) (v : Value) (al : List Pr) (hs : a.eval s = v) (h : Sep B w0 w (RunR v al :: l))
    (u : Value) (ps : List Pr) (hx : a.eval x = u) (hu : Row encP 2 w u ps) (hl : al.length + ps.length < 1000000)
    (hK : ∀ ao n c w', Sep B w0 w' (RunR (.slice ao n c) (al ++ ps) :: l) → wpList Tryz.prog ops Q rest (a.put o.dst (.slice ao n c)) w') : wpList Tryz.prog ops Q (o :: rest) a w := by
  obtain ⟨i0, hi, hz0, hz1, hz2⟩ := info_parts infoPair
  obtain ⟨ao, cap, rfl, h1, h2, h3⟩ := hu
  have hown := h.run
  obtain ⟨av, cv, rfl, _⟩ := hown.shape
  cases ao with
  | none =>
    have hm : ps = [] := by
      rcases List.eq_nil_or_concat ps with e | ⟨m', y, e⟩
      · exact e
      · obtain ⟨b, off, e2, _⟩ := h3 (by rw [e]; simp)
        cases e2
    subst hm
    rw [h2 rfl] at hx
    refine wpList_append_own_none hgd s x 22 ho 0 69 i0 2 Tryz.underlying22 hi _ _ _ hs hown hx ?_
    exact hK _ _ _ _ (by rw [List.append_nil]; exact h)
  | some ad =>
    refine wpList_append_own_at w hgd s x 22 ho 0 69 i0 _ 2 16 Tryz.underlying22 hi hz0 hz1 hz2 rfl (by decide) _ _ _ hs hown ad ps.length cap (flatK encP 2 ps.toArray).toList hx (by simp) ?_ (flatK_oneCell encP_one encP_len) (by unfold maxLen; omega) (by omega) (Nat.zero_le _) ?_
    · intro j u hj
      obtain ⟨hj1, hj2⟩ := List.getElem?_eq_some_iff.1 hj
      have hj3 : j < ps.length * 2 := by simpa using hj1
      obtain ⟨b, off, e2, _, hc⟩ := h3 (by intro e; rw [e] at hj3; simp at hj3)
      cases e2
      rw [Go.WideShapes.add_plain, hc j hj3, getElem!_pos _ j (by simpa using hj3), ← hj2]
      simp
    · intro v' w' g1 g2 _ g4
      obtain ⟨ao', n', c', rfl⟩ : ∃ ao n c, v' = .slice ao n c := by
        rcases g1.2 with ⟨h, _⟩ | ⟨g, cap, cur, h, _⟩
        · exact ⟨_, _, _, h⟩
        · exact ⟨_, _, _, h⟩
      refine hK _ _ _ _ (h.appendedRun ?_ g2 g4)
      show w'.ownsRow 0 69 2 _ (al ++ ps).length (flatK encP 2 (al ++ ps).toArray).toList
      rw [List.length_append, flatK_append encP 2 encP_len]
      exact g1
end

section
variable {ops : Array Oper} {o : Oper} {a : Act} {K : Act → World → Prop} {Q : Exit → Act → World → Prop} {E : Prop} {B : Nat} {w0 w : World} {l : List Res}
/-- append of one run, as one step of a region that draws its order. -/
theorem step_run (hg : o.guard = none) (s x : Operand) (ho : o.op = .call { callee := .builtin .append, args := #[s, x], argTypes := #[22, 22] }) (v : Value) (al : List Pr) (hs : a.eval s = v) (h : Sep B w0 w (RunR v al :: l))
    (q c : Nat) (m1 m2 : Int) (hx : a.eval x = .slice (some ⟨q, 0, none⟩) 1 c) (hc : Cl w q #[.int .i64 m1, .int .i64 m2] 69) (hl : al.length < 100000)
    (hK : ∀ ao n c' w', Sep B w0 w' (RunR (.slice ao n c') (al ++ [(m1, m2)]) :: l) → K (a.put o.dst (.slice ao n c')) w') :
    if Region.wanted o (yielded ops a.tmps) = true then Oper.wp Tryz.prog o a w K Q else E := by
  have hw : Region.wanted o (yielded ops a.tmps) = true := by simp [Region.wanted, hg]
  rw [if_pos hw]
  obtain ⟨i0, hi, hz0, hz1, hz2⟩ := info_parts infoPair
  have hown := h.run
  have hn : ∀ j u, (flatK encP 2 [(m1, m2)].toArray).toList[j]? = some u → w.cell? ((⟨q, 0, none⟩ : Addr).add j) = some u := fun j u hj => by
    rw [← flat_one (m1, m2)] at hj
    rw [Go.WideShapes.add_plain, Nat.zero_add, hc.cell j, ← hj, Array.getElem?_toList]
  obtain ⟨v', w', hr, h2, h3, h4, h5⟩ := run_append_own_at (P := Tryz.prog) w 0 22 o.type 69 i0 _ 2 16 Tryz.underlying22 hi hz0 hz1 hz2 rfl (by decide) v _ _ hown ⟨q, 0, none⟩ 1 c (flatK encP 2 [(m1, m2)].toArray).toList (by simp) hn (flatK_oneCell encP_one encP_len) (by unfold maxLen; omega) (by omega) (Nat.zero_le _)
  · unfold Oper.wp execOp
    simp only [ho, resolve, invoke, builtin, Sem.run_bind, Sem.run_pure, Result.andThen_ok, List.map_toArray, List.map_cons, List.map_nil, hs, hx, hr]
    obtain ⟨ao', n', c', rfl⟩ : ∃ ao n c, v' = .slice ao n c := by
      rcases h2.2 with ⟨h, _⟩ | ⟨g, cap, cur, h, _⟩
      · exact ⟨_, _, _, h⟩
      · exact ⟨_, _, _, h⟩
    refine hK _ _ _ _ (h.appendedRun ?_ h3 h5)
    show w'.ownsRow 0 69 2 _ (al ++ [(m1, m2)]).length (flatK encP 2 (al ++ [(m1, m2)]).toArray).toList
    rw [List.length_append, flatK_append encP 2 encP_len]
    exact h2
end

set_option maxHeartbeats 1000000 in
theorem minus_o (va vb : Value) (a b : List Pr) (w : World) (ha : Row encP 2 w va a) (hb : Row encP 2 w vb b) (hl : a.length + b.length ≤ 50000) :
    Calls Tryz.prog 34 #[va, vb] w (GivesO w (mnL a b)) := by
  have N1 : Hid (Calls Tryz.prog 53 #[va] w (Gives w (nmL a))) := norm_g va a w ha (by omega)
  have RB : Aside (Row encP 2 w vb b) := hb
  have l1 := nmL_length a
  have l2 := nmL_length b
  obtain ⟨aa, ca, rfl, _⟩ := ha
  obtain ⟨ab, cb, rfl, _⟩ := hb
  go_enter Tryz.func34, Tryz.ntmps34
  go_wp2_with fail
  refine Calls.mono N1.out ?_
  rintro e w1 ⟨ao1, n1, c1, rfl, r1, b1⟩
  have N2 : Hid (Calls Tryz.prog 53 #[.slice ab b.length cb] w1 (Gives w1 (nmL b))) := norm_g _ b w1 (RB.out.below b1) (by omega)
  have R1 : Aside (Row encP 2 w1 (.slice ao1 n1 c1) (nmL a)) := r1
  have B1 : Hid (Below w.heap.size w w1) := b1
  clear r1 b1 N1 RB
  go_wp2_with fail
  refine Calls.mono N2.out ?_
  rintro e w2 ⟨ao2, n2, c2, rfl, r2, b2⟩
  have N3 : Hid (Calls Tryz.prog 62 #[.slice ao2 n2 c2] w2 (Gives w2 (restRL (nmL b)))) := (rest_any _ _ w2 r2 (by omega) (nmL_cn b)).mono fun _ _ h => gives_of h
  have R2 : Aside (Row encP 2 w2 (.slice ao1 n1 c1) (nmL a)) := R1.out.below b2
  have B2 : Hid (Below w.heap.size w w2) := B1.out.trans (b2.mono B1.out.size)
  clear r2 b2 N2 R1 B1
  go_wp2_with fail
  refine Calls.mono N3.out ?_
  rintro e w3 ⟨ao3, n3, c3, rfl, r3, b3⟩
  obtain ⟨q1, _, q3⟩ := restL_ok _ (nmL_cn b)
  have M : Hid (Calls Tryz.prog 61 #[.slice ao1 n1 c1, .slice ao3 n3 c3] w3 (GivesO w3 (meL (nmL a) (restRL (nmL b))))) := (meet_any _ _ _ _ w3 (R2.out.below b3) r3 (nmL_cn a) q1 (by omega)).mono fun _ _ h => givesO_of h
  have B3 : Hid (Below w.heap.size w w3) := B2.out.trans (b3.mono B2.out.size)
  clear r3 b3 N3 R2 B2 q1 q3
  go_wp2_with fail
  refine Calls.mono M.out ?_
  rintro e w4 ⟨ao4, n4, c4, rfl, r4, b4⟩
  rw [meL_rest] at r4
  go_wp2
  go_ret
  exact ⟨_, _, _, rfl, r4.mono B3.out.size, B3.out.trans (b4.mono B3.out.size)⟩


end Go.Proofs.YtnngfkjbbedkpaaGreatDoor

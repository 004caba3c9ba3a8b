/-
  The walk of package chain's Read: a range over the pages of a chain.
-/
import Derived.Maps.OwnIn
import Derived.Test.YtnjnggjbeklmpaaGreatDoorChLinks
import Derived.Test.YtnjnggjbeklmpaaGreatDoorChWrite
namespace Go.Proofs.YtnjnggjbeklmpaaGreatDoor
open Go.Shelf Go.RowKit Go.Lib Go.Sort
set_option linter.unusedVariables false

attribute [local go_sem] Oper.semAt_some

/-- A thing with a value of its own. -/
def ExR (F : Value → Res) : Res := fun w X => ∃ v, F v w X
theorem good_ex {F : Value → Res} (h : ∀ v, Good (F v)) : Good (ExR F) :=
  ⟨fun w w' X ⟨v, hv⟩ hk hs => ⟨v, (h v).kept w w' X hv hk hs⟩, fun w X ⟨v, hv⟩ => (h v).lt w X hv⟩
section
variable {B : Nat} {w0 w w' : World} {l : List Res} {F : Value → Res}
theorem Sep.ex (hF : ∀ v, Good (F v)) (h : Sep B w0 w (ExR F :: l)) : ∃ v, Sep B w0 w (F v :: l) := by
  obtain ⟨hB, hb, Y, ⟨_, X, Z, ⟨v, ha⟩, hl, hd, hy⟩, hY⟩ := h
  exact ⟨v, hB, hb, Y, ⟨hF v, X, Z, ha, hl, hd, hy⟩, hY⟩
theorem Sep.toEx (hF : ∀ v, Good (F v)) {v : Value} (h : Sep B w0 w (F v :: l)) : Sep B w0 w (ExR F :: l) := by
  obtain ⟨hB, hb, Y, ⟨_, X, Z, ha, hl, hd, hy⟩, hY⟩ := h
  exact ⟨hB, hb, Y, ⟨good_ex hF, X, Z, ⟨v, ha⟩, hl, hd, hy⟩, hY⟩
theorem Sep.putBlk {q : Nat} {o : Obj} (h : Sep B w0 w (Blk q o :: l)) (o' : Obj) : Sep B w0 (w.putObj q o') (Blk q o' :: l) := by
  refine h.step (good_blk _ _) fun X hX => ⟨X, ⟨World.putObj_heap_same (Array.getElem?_eq_some_iff.1 hX.1).1, hX.2⟩, ⟨rfl, rfl, rfl, by simp, fun k _ hx => World.putObj_heap_other (fun e => hx (by rw [e]; exact (hX.2 q).2 rfl))⟩, fun k hk => .inl hk⟩
theorem Sep.appendedRun {v v' : Value} {s ps : List Pr} (h : Sep B w0 w (RunR v s :: l)) (h2 : OwnP 0 w' v' (s ++ ps)) (hg : w.grownBy w' v.ownBlock) (hloc : v'.ownBlock = v.ownBlock ∨ v'.ownBlock = some w.heap.size) : Sep B w0 w' (RunR v' (s ++ ps) :: l) := by
  refine h.step (good_run _ _) fun X hX => ⟨fun k => v'.ownBlock = some k, ⟨h2, fun k => Iff.rfl⟩, Turn.grown hg (fun k hk => (hX.2 k).2 hk), fun k hk => ?_⟩
  rcases hloc with e1 | e1
  · exact .inl ((hX.2 k).2 (e1 ▸ hk))
  · rw [e1] at hk
    exact .inr (Nat.le_of_eq (Option.some.inj hk))
end

section
variable {F : Fence} {nF : Nat} {ops : Array Oper} {rest : List Oper} {o : Oper} {a : Act} {Q : Exit → Act → World → Prop} {B : Nat} {w0 w : World} {l : List Res}
theorem appIn_runs (hgd : o.guard = .none) (s x : Operand) (ho : o.op = .call { callee := .builtin .append, args := #[s, x], argTypes := #[33, 33] }) (v : Value) (al : List Pr) (hs : a.eval s = v) (h : Sep B w0 w (RunR v al :: l))
    (u : Value) (ps : List Pr) (hx : a.eval x = u) (hu : Row encP 2 w u ps) (hl : al.length + ps.length < 1000000)
    (hK : ∀ ao n c w', Sep B w0 w' (RunR (.slice ao n c) (al ++ ps) :: l) → wpListIn F nF Tryz.prog ops Q rest (a.put o.dst (.slice ao n c)) w') : wpListIn F nF Tryz.prog ops Q (o :: rest) a w := by
  obtain ⟨i0, hi, hz0, hz1, hz2⟩ := info_parts infoPair
  obtain ⟨ao, cap, rfl, h1, h2, h3⟩ := hu
  have hown := h.run
  obtain ⟨av, cv, rfl, _⟩ := hown.shape
  cases ao with
  | none =>
    have hm : ps = [] := by
      rcases List.eq_nil_or_concat ps with e | ⟨m', y, e⟩
      · exact e
      · obtain ⟨b, off, e2, _⟩ := h3 (by rw [e]; simp)
        cases e2
    subst hm
    rw [h2 rfl] at hx
    refine wpListIn_plain hgd fun K hK' => ?_
    have hrun := run_append_owned_none (P := Tryz.prog) (w := w) 0 33 o.type 51 i0 2 Tryz.underlying33 hi _ _ _ hown
    unfold Oper.wpIn
    refine ⟨?_, ?_⟩
    · simp [Oper.about, ho, resolve, Target.leads, Sem.run_pure]
    · rw [Oper.semAt_plain F _ _ (by rw [ho]; intro c hc'; cases hc')]
      simp only [List.length_nil] at hx
      simp [execOp, ho, resolve, invoke, builtin, hs, hx, hrun, Result.andThen]
      exact hK' _ _ (hK _ _ _ _ (by rw [List.append_nil]; exact h))
  | some ad =>
    refine wpListIn_append_own_at w hgd s x 33 ho 0 51 i0 _ 2 16 Tryz.underlying33 hi hz0 hz1 hz2 rfl (by decide) _ _ _ hs hown ad ps.length cap (flatK encP 2 ps.toArray).toList hx (by simp) ?_ (flatK_oneCell encP_one encP_len) (by unfold maxLen; omega) (by omega) (Nat.zero_le _) ?_
    · intro j u hj
      obtain ⟨hj1, hj2⟩ := List.getElem?_eq_some_iff.1 hj
      have hj3 : j < ps.length * 2 := by simpa using hj1
      obtain ⟨b, off, e2, _, hc⟩ := h3 (by intro e; rw [e] at hj3; simp at hj3)
      cases e2
      rw [Go.WideShapes.add_plain, hc j hj3, getElem!_pos _ j (by simpa using hj3), ← hj2]
      simp
    · intro v' w' g1 g2 _ g4
      obtain ⟨ao', n', c', rfl⟩ : ∃ ao n c, v' = .slice ao n c := by
        rcases g1.2 with ⟨h, _⟩ | ⟨g, cap, cur, h, _⟩
        · exact ⟨_, _, _, h⟩
        · exact ⟨_, _, _, h⟩
      refine hK _ _ _ _ (h.appendedRun ?_ g2 g4)
      show w'.ownsRow 0 51 2 _ (al ++ ps).length (flatK encP 2 (al ++ ps).toArray).toList
      rw [List.length_append, flatK_append encP 2 encP_len]
      exact g1
theorem appIn_int (hgd : o.guard = .none) (s x : Operand) (ho : o.op = .call { callee := .builtin .append, args := #[s, x], argTypes := #[34, 34] }) (v : Value) (cs : List Value) (hs : a.eval s = v) (h : Sep B w0 w (RowR 3 v cs :: l))
    (r c : Nat) (t : Int) (hx : a.eval x = .slice (some ⟨r, 0, none⟩) 1 c) (c0 : w.cell? ⟨r, 0, none⟩ = some (.int .i64 t)) (hl : cs.length < 100000)
    (hK : ∀ ao n' c' w', Sep B w0 w' (RowR 3 (.slice ao n' c') (cs ++ [.int .i64 t]) :: l) → wpListIn F nF Tryz.prog ops Q rest (a.put o.dst (.slice ao n' c')) w') : wpListIn F nF Tryz.prog ops Q (o :: rest) a w := by
  obtain ⟨i0, hi, hz0, hz1, hz2⟩ := info_parts infoInt
  refine wpListIn_append_own_at w hgd s x 34 ho 0 3 i0 _ 1 8 Tryz.underlying34 hi hz0 hz1 hz2 rfl (by decide) v cs.length cs hs h.row ⟨r, 0, none⟩ 1 c [.int .i64 t] hx rfl (fun j u hj => ?_) (fun u hu => by simp at hu; subst hu; rfl) (by unfold maxLen; omega) (by omega) (Nat.zero_le _) ?_
  · match j, hj with
    | 0, hj => simp at hj; subst hj; exact c0
    | j + 1, hj => simp at hj
  · intro v' w' h2 h3 _ h5
    obtain ⟨ao, c', rfl⟩ := slice_of h2
    exact hK _ _ _ _ (h.appended h2 h3 h5)
end

/-- A variable that holds a row of runs, or of numbers. -/
def BoxR (q : Nat) (s : List Pr) : Res := ExR fun v => Both (Blk q (.cells #[v] 33)) (RunR v s)
def BoxI (q : Nat) (s : List Int) : Res := ExR fun v => Both (Blk q (.cells #[v] 34)) (RowR 3 v (s.map (Value.int .i64)))
section
variable {B : Nat} {w0 w w' : World} {l : List Res} {q : Nat} {s : List Pr} {t : List Int}
theorem Sep.boxR (h : Sep B w0 w (BoxR q s :: l)) : ∃ ao c, Sep B w0 w (Blk q (.cells #[.slice ao s.length c] 33) :: RunR (.slice ao s.length c) s :: l) := by
  obtain ⟨v, h1⟩ := Sep.ex (fun v => good_both (good_blk _ _) (good_run _ _)) h
  have h2 := h1.map fun _ => Hp.part (good_blk _ _) (good_run _ _)
  obtain ⟨ao, c, rfl, _⟩ := h2.up1.run.shape
  exact ⟨ao, c, h2⟩
theorem Sep.boxI (h : Sep B w0 w (BoxI q t :: l)) : ∃ ao c, Sep B w0 w (Blk q (.cells #[.slice ao t.length c] 34) :: RowR 3 (.slice ao t.length c) (t.map (Value.int .i64)) :: l) := by
  obtain ⟨v, h1⟩ := Sep.ex (fun v => good_both (good_blk _ _) (good_row _ _ _)) h
  have h2 := h1.map fun _ => Hp.part (good_blk _ _) (good_row _ _ _)
  obtain ⟨ao, c, rfl⟩ := h2.up1.shape
  rw [List.length_map] at h2
  exact ⟨ao, c, h2⟩
theorem Sep.toBoxR {v : Value} (h : Sep B w0 w (Blk q (.cells #[v] 33) :: RunR v s :: l)) : Sep B w0 w (BoxR q s :: l) := Sep.toEx (fun v => good_both (good_blk _ _) (good_run _ _)) (v := v) h.join
theorem Sep.toBoxI {v : Value} (h : Sep B w0 w (Blk q (.cells #[v] 34) :: RowR 3 v (t.map (Value.int .i64)) :: l)) : Sep B w0 w (BoxI q t :: l) := Sep.toEx (fun v => good_both (good_blk _ _) (good_row _ _ _)) (v := v) h.join
end

/-- The loop's record. -/
def recO (fn : FuncId) (tmps : Array Value) (ps : Array Tmp) (assign body : Code) (D : Nat) (st : LoopState) (pe : Option Code) : Obj := .loop { state := st, pending := pe, fn, tmps, params := ps, assign, body, defers := D }

/-- A range over a function, by the one call that it makes. -/
theorem rangeFunc_call {F : Fence} {P : Program} (hro : F.round = none) (hFa : ∀ f, F.fn f) {n : Nat} {g : Operand} {ps : Array Tmp} {assign body : Code} {Q : Exit → Act → World → Prop} {a : Act} {w : World} {gf : Nat} {lb : Array Value} (hg : a.eval g = .func (.func gf) #[] lb) (eg : ∀ args w, (callFunc gf args).run P w = .ok (.enter gf args) w) (h1 : 1 ≤ n)
    (h : ∀ (fn : FuncId) (K : LoopState → Option Code → Obj), K = recO fn a.tmps ps assign body w.heap.size → CallsIn F (n - 1) P gf (#[.func (.yield (w.heap.size + 1)) #[] #[]] ++ lb) ((w.alloc (.deferred (some []))).alloc (K .ready none)) (rangePost F n P (w.heap.size + 1) Q { a with defers := [{ target := .collected w.heap.size, args := #[] }] ++ a.defers })) :
    (Code.rangeFunc g ps assign body).wpIn F n P Q a w := by
  refine wpIn_rangeFunc ?_
  intro fn hfn
  have h2 := h fn _ rfl
  have he : (Instr.enterLoop fn a.tmps ps assign body F.round).run P w = .ok (w.heap.size + 1, [{ target := .collected w.heap.size, args := #[] }]) ((w.alloc (.deferred (some []))).alloc (recO fn a.tmps ps assign body w.heap.size .ready none)) := by
    rw [hro]
    unfold recO
    exact run_enterLoop_outer _ _ _ _ _
  generalize (w.alloc (.deferred (some []))).alloc (recO fn a.tmps ps assign body w.heap.size .ready none) = W1 at *
  refine ⟨w.heap.size + 1, [{ target := .collected w.heap.size, args := #[] }], W1, { target := .fn (.func gf) lb, args := #[.func (.yield (w.heap.size + 1)) #[] #[]] }, W1, gf,
    #[.func (.yield (w.heap.size + 1)) #[] #[]] ++ lb, W1, he, ?_, ?_, ?_, fun _ => h1, ?_⟩
  · simp only [resolve, hg]
    simp [go_sem]
  · intro f' _; exact hFa f'
  · simp [invoke, go_sem, eg]
  · exact h2

/-- One round, by the walk of its assignments and of its body. -/
theorem yield_sep {B : Nat} {w0 W : World} {lp m : Nat} {fn : FuncId} {tmps : Array Value} {ps : Array Tmp} {assign body : Code} {D : Nat} {r : List Res} {args : Array Value} {R : Ending → World → Prop} {K : LoopState → Option Code → Obj} (hK : K = recO fn tmps ps assign body D)
    (S : Sep B w0 W (Blk lp (K .ready none) :: r)) (hps : args.size = ps.size)
    (h : assign.wpIn (Fence.wide.inRound lp) m Tryz.prog (Exit.then (fun a₁ w₁ => ∃ r1, Sep B w0 w₁ (Blk lp (K .ready none) :: r1) ∧ ∀ w₂, Sep B w0 w₂ (Blk lp (K .busy none) :: r1) →
      body.wpIn (Fence.wide.inRound lp) m Tryz.prog (fun e _ w3 => ∃ r2, Sep B w0 w3 (Blk lp (K .busy none) :: r2) ∧
        ((e = .normal ∧ ∀ w4, Sep B w0 w4 (Blk lp (K .ready none) :: r2) → R (.returned (.bool true)) w4) ∨ (e = .ret ∧ ∀ w4, Sep B w0 w4 (Blk lp (K .done (some .ret)) :: r2) → R (.returned (.bool false)) w4))) a₁ w₂) (fun _ _ _ => False))
      { tmps := (ps.zip args).foldl (fun t (p, v) => t.setIfInBounds p v) tmps, defers := [] } W) : YieldAt Fence.wide m Tryz.prog lp args W R := by
  subst hK
  have hl := S.blk
  refine ⟨fn, _, assign, body, run_yield (P := Tryz.prog) (args := args) hl hps, roundIn_of_wpIn trivial (wpIn_mono h ?_)⟩
  rintro e a1 w1 hp
  cases e with
  | normal =>
    obtain ⟨r1, S1, hb⟩ := hp
    refine ⟨_, run_beginRound S1.blk rfl, wpIn_mono (hb _ (S1.putBlk _)) ?_⟩
    rintro e a3 w3 ⟨r2, S3, (⟨rfl, hR⟩ | ⟨rfl, hR⟩)⟩
    · exact ⟨_, _, run_endRound (P := Tryz.prog) none S3.blk, hR _ (S3.putBlk _)⟩
    · exact ⟨_, _, run_endRound (P := Tryz.prog) (some .ret) S3.blk, hR _ (S3.putBlk _)⟩
  | ret => exact hp.elim
  | exit id => exact hp.elim
  | goto t => exact hp.elim
  | panic ch => exact hp.elim
  | outgrown => exact hp.elim

end Go.Proofs.YtnjnggjbeklmpaaGreatDoor

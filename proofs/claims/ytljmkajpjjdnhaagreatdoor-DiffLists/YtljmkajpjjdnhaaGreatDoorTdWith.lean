/-
  The walk of a stack's with: what a thing's node has is put on it, by a range over a function.
-/
import Derived.Test.YtljmkajpjjdnhaaGreatDoorTdFrom
namespace Go.Proofs.YtljmkajpjjdnhaaGreatDoor.N
open Go.Shelf Go.RowKit Go.Lib Go.Sort
set_option linter.unusedVariables false
set_option linter.unusedSectionVars false
variable [DecidableEq Dl] [Inhabited Dl] [Inhabited Th]

attribute [local go_sem] Oper.semAt_some

abbrev ndV (v : Value) : Value := .agg #[.bool true, v, .slice none 0 0, .slice none 0 0]

set_option maxRecDepth 100000 in
theorem from_c (x : Th) (v : Value) (w : World) : Calls Tryz.prog 30 #[thV x, ndV v] w fun e w' => e = .returned (.func (.func 36) #[] #[pt (w.heap.size + 1), pt w.heap.size]) ∧ (w.alloc (thO x)).alloc (ndO v) = w' := by
  go_enter Tryz.func30, Tryz.ntmps30
  go_wp2
  go_ret
  exact ⟨rfl, rfl⟩

/-- A variable that holds a stack. -/
def BoxT (q : Nat) (s : List Th) : Res := ExR fun v => Both (Blk q (.cells #[v] 46)) (StR v s)
section
variable {B : Nat} {w0 w w' : World} {l : List Res} {q : Nat} {s : List Th}
theorem boxT (h : Sep B w0 w (BoxT q s :: l)) : ∃ ao c, Sep B w0 w (Blk q (.cells #[.slice ao s.length c] 46) :: StR (.slice ao s.length c) s :: l) := by
  obtain ⟨v, h1⟩ := Sep.ex (fun v => good_both (good_blk _ _) (good_st _ _)) h
  have h2 := h1.map fun _ => Hp.part (good_blk _ _) (good_st _ _)
  obtain ⟨ao, c, rfl⟩ := Sep.rowKshape h2.up1
  exact ⟨ao, c, h2⟩
theorem toBoxT {v : Value} (h : Sep B w0 w (Blk q (.cells #[v] 46) :: StR v s :: l)) : Sep B w0 w (BoxT q s :: l) := Sep.toEx (fun v => good_both (good_blk _ _) (good_st _ _)) (v := v) h.join
theorem snocT {v : Value} {y : Th} (h : Sep B w0 w (RowK 51 5 v (s.length + 1) ((flatK encT 5 s.toArray).toList ++ encT y) :: l)) : Sep B w0 w (StR v (s ++ [y]) :: l) := by
  unfold StR
  rw [List.length_append, List.length_singleton, flatK_snoc encT 5 encT_len]
  exact h
end

section
variable {B : Nat} {w0 w : World} {l : List Res}
set_option maxRecDepth 100000 in
set_option maxHeartbeats 4000000 in
theorem with_c (ao a0 : Option Addr) (cap c0 : Nat) (es : List En) (s0 : List Th) (hl : es.length ≤ 10000) (hs : s0.length ≤ 10000) (x : Th) (hB : w0.heap.size ≤ B) (hR : Row encP 2 w0 (.slice ao es.length cap) es) (h : Sep B w0 w (StR (.slice a0 s0.length c0) s0 :: l)) :
    Calls Tryz.prog 16 #[.slice a0 s0.length c0, thV x, ndV (.slice ao es.length cap)] w fun e w' => ∃ ao' c', e = .returned (.slice ao' (s0 ++ thL x es).length c') ∧ Sep B w0 w' (StR (.slice ao' (s0 ++ thL x es).length c') (s0 ++ thL x es) :: l) := by
  obtain ⟨st, hst⟩ : ∃ st, s0 ++ thL x es = st := ⟨_, rfl⟩
  rw [hst]
  have HST : Hid (s0 ++ thL x es = st) := hst
  clear hst
  have HR : Hid _ := hR
  have CF : Hid (∀ u, _) := fun u => from_c x (.slice ao es.length cap) u
  clear hR
  have S1 : Hid (Sep B w0 (((w.alloc (.cells #[.slice a0 s0.length c0] 46)).alloc (thO x)).alloc (ndO (.slice ao es.length cap))) (Blk (w.heap.size + 1 + 1) (ndO (.slice ao es.length cap)) :: Blk (w.heap.size + 1) (thO x) :: Blk w.heap.size (.cells #[.slice a0 s0.length c0] 46) :: StR (.slice a0 s0.length c0) s0 :: l)) := by
    have := ((h.addBlk (.cells #[.slice a0 s0.length c0] 46)).addBlk (thO x)).addBlk (ndO (.slice ao es.length cap))
    simp only [World.size_alloc] at this
    exact this
  clear h
  refine (callsIn_wide (n := 5)).1 ?_
  refine callsIn_of_wp_marks Tryz.func16 rfl trivial ?_ rfl
  simp only [Tryz.ntmps16, List.size_toArray, List.length_cons, List.length_nil, Nat.reduceAdd, Nat.reduceSub, Array.replicate_succ, Array.replicate_zero, List.push_toArray, List.append_toArray, List.nil_append, List.cons_append]
  gi_wp2_with fail
  refine ⟨trivial, (callsIn_wide.2 (CF.out _)).mono ?_⟩
  rintro e w1 ⟨rfl, rfl⟩
  clear CF
  gi_wp2
  have S2 : Hid (Sep B w0 (((((w.alloc (.cells #[.slice a0 s0.length c0] 46)).alloc (thO x)).alloc (ndO (.slice ao es.length cap))).alloc (thO x)).alloc (ndO (.slice ao es.length cap))) (Blk (w.heap.size + 1 + 1 + 1 + 1) (ndO (.slice ao es.length cap)) :: Blk (w.heap.size + 1 + 1 + 1) (thO x) :: Blk (w.heap.size + 1 + 1) (ndO (.slice ao es.length cap)) :: Blk (w.heap.size + 1) (thO x) :: Blk w.heap.size (.cells #[.slice a0 s0.length c0] 46) :: StR (.slice a0 s0.length c0) s0 :: l)) := by
    have := (S1.out.addBlk (thO x)).addBlk (ndO (.slice ao es.length cap))
    simp only [World.size_alloc] at this
    exact this
  clear S1
  generalize ((((w.alloc (.cells #[.slice a0 s0.length c0] 46)).alloc (thO x)).alloc (ndO (.slice ao es.length cap))).alloc (thO x)).alloc (ndO (.slice ao es.length cap)) = w5 at *
  generalize w.heap.size + 1 + 1 + 1 + 1 = qn at *
  generalize w.heap.size + 1 + 1 + 1 = qx at *
  generalize w.heap.size + 1 + 1 = q2 at *
  generalize w.heap.size + 1 = q1 at *
  generalize w.heap.size = q0 at *
  refine rangeFunc_call rfl (fun _ => trivial) (gf := 36) (lb := #[pt qn, pt qx]) rfl (enters_of Tryz.func36 (by kernel_rfl) rfl) (by decide) ?_
  intro fn K hK
  have HK : Hid _ := hK
  clear hK
  have S3 : Hid (Sep B w0 ((w5.alloc (.deferred (some []))).alloc (K .ready none)) (Blk qn (ndO (.slice ao es.length cap)) :: Blk qx (thO x) :: (BoxT q0 (s0 ++ []) :: Blk (w5.heap.size + 1) (K .ready none) :: Blk w5.heap.size (.deferred (some [])) :: Blk q2 (ndO (.slice ao es.length cap)) :: Blk q1 (thO x) :: l))) := by
    have h1 := (S2.out.addBlk (.deferred (some []))).addBlk (K .ready none)
    simp only [World.size_alloc] at h1
    rw [List.append_nil]
    have h2 := Sep.pk [_, _, _, _, _, _, _] h1
    have h3 := Sep.pk [_, _, _, _, _, _, _] h2
    have h4 := toBoxT h3
    exact Sep.pk [_, _, _, _] (Sep.pk [_, _, _, _] h4)
  clear S2
  generalize (w5.alloc (.deferred (some []))).alloc (K .ready none) = w7 at *
  generalize hlp : w5.heap.size + 1 = lp at *
  clear hlp
  generalize w5.heap.size = D at *
  have TL := thL_len x es
  refine (fe_in lp 1 qn qx ao cap es (by omega) x hB HR.out (fun acc => BoxT q0 (s0 ++ acc) :: Blk lp (K .ready none) :: Blk D (.deferred (some [])) :: Blk q2 (ndO (.slice ao es.length cap)) :: Blk q1 (thO x) :: l) ?hY w7 S3.out).mono ?_
  case hY =>
    intro W acc y M h1 hacc
    clear S3
    have S4 : Hid (Sep B w0 W (Blk lp (K .ready none) :: BoxT q0 (s0 ++ acc) :: Blk D (.deferred (some [])) :: Blk q2 (ndO (.slice ao es.length cap)) :: Blk q1 (thO x) :: (l ++ M))) := Sep.up1 h1
    have hlen : (s0 ++ acc).length < 1000000 := by rw [List.length_append]; omega
    have EA : Hid (s0 ++ (acc ++ [y]) = s0 ++ acc ++ [y]) := (List.append_assoc _ _ _).symm
    clear h1 hacc
    clear HST
    generalize s0 ++ acc = st at *
    generalize s0 ++ (acc ++ [y]) = st2 at *
    refine yield_sep HK.out S4.out rfl ?_
    gi_wp2
    refine ⟨_, (S4.out.addBlk (thO y)).up1, fun w2 s2 => ?_⟩
    generalize W.heap.size = qe at *
    clear S4
    obtain ⟨a1, c1, s5⟩ := boxT (Sep.pk [_, _] s2)
    have S5 : Hid (Sep B w0 w2 (StR (.slice a1 st.length c1) st :: Blk q0 (.cells #[.slice a1 st.length c1] 46) :: Blk lp (K .busy none) :: Blk qe (thO y) :: Blk D (.deferred (some [])) :: Blk q2 (ndO (.slice ao es.length cap)) :: Blk q1 (thO x) :: (l ++ M))) := s5.up1
    clear s2 s5
    have CE := (Sep.pk [_, _, _] S5.out).cl
    have y0 : w2.cell? ⟨qe, 0, none⟩ = some (.string y.fr) := CE.cell 0
    have y1 : w2.cell? ⟨qe, 1, none⟩ = some (.string y.tt) := CE.cell 1
    have y2 : w2.cell? ⟨qe, 2, none⟩ = some (.int .i64 y.pg) := CE.cell 2
    have y3 : w2.cell? ⟨qe, 3, none⟩ = some (.int .i64 y.dp) := CE.cell 3
    have y4 : w2.cell? ⟨qe, 4, none⟩ = some (.string y.vl) := CE.cell 4
    have k0 : w2.cell? ⟨q0, 0, none⟩ = some (.slice a1 st.length c1) := S5.out.up1.cl.cell 0
    have S6 : Hid (Sep B w0 (w2.alloc (thO y)) (RowK 51 5 (.slice a1 st.length c1) st.length (flatK encT 5 st.toArray).toList :: Blk w2.heap.size (thO y) :: Blk q0 (.cells #[.slice a1 st.length c1] 46) :: Blk lp (K .busy none) :: Blk qe (thO y) :: Blk D (.deferred (some [])) :: Blk q2 (ndO (.slice ao es.length cap)) :: Blk q1 (thO x) :: (l ++ M))) := (S5.out.addBlk (thO y)).up1
    have HN : Hid _ := newsAt (news := encT y) S6.out.up1.blk
    clear CE S5
    gi_wp2_with (gi_at_builtin; refine appInK rfl rfl infoThing Tryz.underlying46 rfl (by decide) (by decide) _ rfl S6.out rfl HN.out rfl (encT_one y) hlen ?_)
    intro ao3 c3 w3 s4
    have k0' : w3.cell? ⟨q0, 0, none⟩ = some (.slice a1 st.length c1) := (Sep.pk [_, _] s4).cl.cell 0
    have f0 := (Sep.pk [_, _] s4).cl.frozen 0
    have S7 : Hid (Sep B w0 (w3.setCell ⟨q0, 0, none⟩ (.slice ao3 (st.length + 1) c3)) (Blk lp (K .busy none) :: BoxT q0 (st ++ [y]) :: Blk D (.deferred (some [])) :: Blk q2 (ndO (.slice ao es.length cap)) :: Blk q1 (thO x) :: (l ++ M))) := by
      have h1 := (Sep.pk [_, _] (snocT s4)).blkSet 0 (.slice ao3 (st.length + 1) c3)
      have h2 := toBoxT h1
      have h3 := (Sep.pk [_] h2).drop
      have h4 := (Sep.pk [_, _] h3).drop
      exact h4.up1
    clear S6 HN s4 k0 y0 y1 y2 y3 y4
    gi_wp2
    refine ⟨_, S7.out, fun w5 s5 => ?_⟩
    rw [EA.out]
    exact s5.up1
  clear S3
  rintro e W2 ⟨⟨v, rfl⟩, s4⟩
  rw [HST.out] at s4
  have S4 : Hid (Sep B w0 W2 (Blk lp (K .ready none) :: BoxT q0 st :: Blk D (.deferred (some [])) :: Blk q2 (ndO (.slice ao es.length cap)) :: Blk q1 (thO x) :: l)) := s4.up1
  clear s4
  obtain ⟨o', hrun⟩ : ∃ o', (Instr.endLoop lp).run Tryz.prog W2 = .ok none (W2.putObj lp o') := ⟨_, by
    have hb := S4.out.blk
    rw [HK.out] at hb
    exact run_endLoop hb (by simp)⟩
  refine ⟨none, _, hrun, ?_⟩
  have S5 : Hid (Sep B w0 (W2.putObj lp o') (Blk lp o' :: BoxT q0 st :: Blk D (.deferred (some [])) :: Blk q2 (ndO (.slice ao es.length cap)) :: Blk q1 (thO x) :: l)) := S4.out.putBlk _
  clear S4 hrun HK
  generalize W2.putObj lp o' = W3 at *
  dsimp only
  obtain ⟨a1, c1, s6⟩ := boxT (S5.out.up1)
  have k0 : W3.cell? ⟨q0, 0, none⟩ = some (.slice a1 st.length c1) := s6.cl.cell 0
  have hD := (Sep.pk [_, _, _] s6).blk
  have S7 := ((Sep.pk [_, _, _] s6).putBlk (.deferred none)).drop
  have S8 : Hid (Sep B w0 (W3.putObj D (.deferred none)) (StR (.slice a1 st.length c1) st :: l)) := by
    have h1 := S7.up1
    exact (Sep.pk [_] (Sep.pk [_] (Sep.pk [_] (Sep.pk [_] h1).drop).drop).drop).drop
  clear S5 s6 S7
  gi_wp2
  refine ⟨by simp, .inl ⟨_, _, rfl, run_takeDeferred hD, ?_⟩⟩
  refine ⟨.slice a1 st.length c1, ?_, a1, c1, rfl, S8.out⟩
  simp [results, Tryz.f16, go_sem]

end
end Go.Proofs.YtljmkajpjjdnhaaGreatDoor.N

/-
  The walks of package treediff's things: what a thing's node has, from the end (where there are no kids).
-/
import Derived.Test.YtljmkajpjjdnhaaGreatDoorTdBack
namespace Go.Proofs.YtljmkajpjjdnhaaGreatDoor.N
open Go.Shelf Go.RowKit Go.Lib Go.Sort
set_option linter.unusedVariables false

attribute [local go_sem] Oper.semAt_some

abbrev pt (q : Nat) : Value := .pointer (some ⟨q, 0, none⟩)
/-- Whether a key is of a span. -/
def hasB (fr tt k : ByteArray) : Bool := !ltK k fr && (decide (tt = e0) || ltK k tt)
/-- What a leaf has, from its end. -/
def thL (x : Th) (es : List En) : List Th := (es.reverse.filter fun e => hasB x.fr x.tt e.1).map tE

set_option maxRecDepth 100000 in
set_option maxHeartbeats 1000000 in
theorem bwI_none (l m bs : Nat) (W : World) (c0 : W.cell? ⟨bs, 0, none⟩ = some (.slice none 0 0)) :
    CallsIn Fence.wide (m + 1) Tryz.prog 65 #[.func (.yield l) #[] #[], pt bs] W fun e W' => (∃ v, e = .returned v) ∧ W' = W := by
  refine callsIn_of_wp Tryz.func65 rfl trivial ?_ rfl
  simp only [Tryz.ntmps65, List.size_toArray, List.length_cons, List.length_nil, Nat.reduceAdd, Nat.reduceSub, Array.replicate_succ, Array.replicate_zero, List.push_toArray, List.append_toArray, List.nil_append, List.cons_append]
  gi_wp2
  gi_loopg [3] 0 (fun kx s3 wr => s3 = .int .i64 (-1) ∧ wr = W)
  case atStart => exact ⟨rfl, rfl⟩
  case round =>
    obtain ⟨rfl, rfl⟩ := hrel
    gi_wp2
    go_end0
    exact ⟨⟨_, rfl⟩, rfl⟩

set_option maxRecDepth 100000 in
theorem bwE_c (ao : Option Addr) (n c : Nat) (w : World) : Calls Tryz.prog 37 #[.slice ao n c] w fun e w' => e = .returned (.func (.func 64) #[] #[pt w.heap.size]) ∧ w.alloc (.cells #[.slice ao n c] 22) = w' := by
  go_enter Tryz.func37, Tryz.ntmps37
  go_wp2
  go_ret
  exact ⟨rfl, rfl⟩
set_option maxRecDepth 100000 in
theorem bwI_c (ao : Option Addr) (n c : Nat) (w : World) : Calls Tryz.prog 39 #[.slice ao n c] w fun e w' => e = .returned (.func (.func 65) #[] #[pt w.heap.size]) ∧ w.alloc (.cells #[.slice ao n c] 40) = w' := by
  go_enter Tryz.func39, Tryz.ntmps39
  go_wp2
  go_ret
  exact ⟨rfl, rfl⟩

theorem leqB (a b : ByteArray) : (Op.bytesLess a.toList b.toList || (a.toList == b.toList)) = !ltK b a := by
  rw [str_eq]
  unfold ltK
  cases h1 : Op.bytesLess b.toList a.toList
  · cases h2 : Op.bytesLess a.toList b.toList
    · rw [ltK_tri (a := a) (b := b) h2 h1]; simp
    · simp
  · have := ltK_asymm (a := b) (b := a) h1
    unfold ltK at this
    rw [this]
    have : a ≠ b := fun e => by rw [e, bl_irrefl] at h1; cases h1
    simp [this]

set_option maxRecDepth 100000 in
set_option maxHeartbeats 1000000 in
theorem has_c (fr tt k : ByteArray) (w : World) : Calls Tryz.prog 38 #[.agg #[.string fr, .string tt], .string k] w fun e w' => e = .returned (.bool (hasB fr tt k)) ∧ Below w.heap.size w w' := by
  have HB : Hid (Below w.heap.size w (w.alloc (.cells #[.string fr, .string tt] 49))) := (Below.refl _ _).alloc (Nat.le_refl _) _
  have HL := leqB fr k
  cases hl : ltK k fr
  · rw [hl] at HL
    by_cases h0 : tt = ⟨#[]⟩
    · have HE : Hid (hasB fr tt k = true) := by show _ = true; simp [hasB, h0, hl, e0]
      subst h0
      clear hl
      go_enter Tryz.func38, Tryz.ntmps38
      go_wp2
      go_ret
      exact ⟨by rw [HE.out]; rfl, HB.out⟩
    · have HE : Hid (hasB fr tt k = ltK k tt) := by show _ = _; simp [hasB, h0, hl, e0]
      have he : tt.toList ≠ [] := fun e => h0 (baL_inj (e.trans (by simp)))
      have he2 : tt.toList.isEmpty = false := by simpa using he
      clear h0 hl
      go_enter Tryz.func38, Tryz.ntmps38
      go_wp2
      go_ret
      exact ⟨by rw [HE.out]; rfl, HB.out⟩
  · rw [hl] at HL
    have HE : Hid (hasB fr tt k = false) := by show _ = false; simp [hasB, hl]
    clear hl
    go_enter Tryz.func38, Tryz.ntmps38
    go_wp2
    go_ret
    exact ⟨by rw [HE.out]; rfl, HB.out⟩

theorem thL_step (x : Th) (es : List En) {i : Nat} (h : i < es.length) : thL x (es.drop i) = thL x (es.drop (i + 1)) ++ (if hasB x.fr x.tt es[i]!.1 = true then [tE es[i]!] else []) := by
  rw [drop_here h]
  unfold thL
  rw [List.reverse_cons, List.filter_append, List.map_append]
  congr 1
  generalize es[i]! = z
  by_cases c : hasB x.fr x.tt z.1 = true
  · rw [if_pos c]; simp only [List.filter, c, List.map]
  · rw [if_neg c]; simp only [Bool.not_eq_true] at c; simp only [List.filter, c, List.map]
theorem thL_len (x : Th) (es : List En) : (thL x es).length ≤ es.length := by
  unfold thL
  rw [List.length_map]
  exact Nat.le_trans (List.length_filter_le _ _) (by simp)
theorem cells_one {w : World} {q : Nat} {v : Value} {ty : TypeId} (h : w.heap[q]? = some (.cells #[v] ty (0, 0))) : w.cell? ⟨q, 0, none⟩ = some v := by simp [World.cell?, h]

abbrev thO (x : Th) : Obj := .cells #[.string x.fr, .string x.tt, .int .i64 x.pg, .int .i64 x.dp, .string x.vl] 51 (0, 0)
abbrev ndO (v : Value) : Obj := .cells #[.bool true, v, .slice none 0 0, .slice none 0 0] 43 (0, 0)
abbrev thV (x : Th) : Value := .agg #[.string x.fr, .string x.tt, .int .i64 x.pg, .int .i64 x.dp, .string x.vl]

set_option maxRecDepth 100000 in
set_option maxHeartbeats 4000000 in
theorem fe_in {B : Nat} {w0 : World} (lo m qn qx : Nat) (ao : Option Addr) (cap : Nat) (es : List En) (hl : es.length ≤ 100000) (x : Th) (hB : w0.heap.size ≤ B) (hR : Row encP 2 w0 (.slice ao es.length cap) es) (J : List Th → List Res)
    (hY : ∀ W acc y M, Sep B w0 W (J acc ++ M) → acc.length < 100000 → YieldAt Fence.wide m Tryz.prog lo #[thV y] W fun e W' => e = .returned (.bool true) ∧ Sep B w0 W' (J (acc ++ [y]) ++ M))
    (W : World) (hS : Sep B w0 W (Blk qn (ndO (.slice ao es.length cap)) :: Blk qx (thO x) :: J [])) :
    CallsIn Fence.wide (m + 3) Tryz.prog 36 #[.func (.yield lo) #[] #[], pt qn, pt qx] W fun e W' => (∃ v, e = .returned v) ∧ Sep B w0 W' (J (thL x es)) := by
  have HY : Hid _ := hY
  have HR : Hid _ := hR
  clear hY hR
  have CB : Hid (∀ u, _) := fun u => bwE_c ao es.length cap u
  have CI : Hid (∀ u, _) := fun u => bwI_c none 0 0 u
  have S1 : Hid (Sep B w0 (W.alloc (.cells #[.func (.yield lo) #[] #[]] 82)) (Blk W.heap.size (.cells #[.func (.yield lo) #[] #[]] 82) :: Blk qn (ndO (.slice ao es.length cap)) :: Blk qx (thO x) :: J [])) := hS.addBlk _
  clear hS
  have n1 : (W.alloc (.cells #[.func (.yield lo) #[] #[]] 82)).cell? ⟨qn, 1, none⟩ = some (.slice ao es.length cap) := S1.out.up1.cl.cell 1
  refine callsIn_of_wp_marks Tryz.func36 rfl trivial ?_ rfl
  simp only [Tryz.ntmps36, List.size_toArray, List.length_cons, List.length_nil, Nat.reduceAdd, Nat.reduceSub, Array.replicate_succ, Array.replicate_zero, List.push_toArray, List.append_toArray, List.nil_append, List.cons_append]
  gi_wp2_with fail
  refine ⟨trivial, (callsIn_wide.2 (CB.out _)).mono ?_⟩
  rintro e w1 ⟨rfl, rfl⟩
  clear CB
  gi_wp2
  have S2 : Hid (Sep B w0 ((W.alloc (.cells #[.func (.yield lo) #[] #[]] 82)).alloc (.cells #[.slice ao es.length cap] 22)) (Blk (W.heap.size + 1) (.cells #[.slice ao es.length cap] 22) :: Blk W.heap.size (.cells #[.func (.yield lo) #[] #[]] 82) :: Blk qn (ndO (.slice ao es.length cap)) :: Blk qx (thO x) :: J [])) := by
    have := S1.out.addBlk (.cells #[.slice ao es.length cap] 22)
    simp only [World.size_alloc] at this
    exact this
  clear S1 n1
  generalize (W.alloc (.cells #[.func (.yield lo) #[] #[]] 82)).alloc (.cells #[.slice ao es.length cap] 22) = w2 at *
  generalize W.heap.size + 1 = qs at *
  generalize W.heap.size = qy at *
  refine rangeFunc_call rfl (fun _ => trivial) (gf := 64) (lb := #[pt qs]) rfl (enters_of Tryz.func64 (by kernel_rfl) rfl) (by omega) ?_
  intro fn K hK
  have HK : Hid _ := hK
  clear hK
  have S3 : Hid (Sep B w0 ((w2.alloc (.deferred (some []))).alloc (K .ready none)) (Blk (w2.heap.size + 1) (K .ready none) :: Blk w2.heap.size (.deferred (some [])) :: Blk qs (.cells #[.slice ao es.length cap] 22) :: Blk qy (.cells #[.func (.yield lo) #[] #[]] 82) :: Blk qn (ndO (.slice ao es.length cap)) :: Blk qx (thO x) :: J [])) := by
    have h1 := (S2.out.addBlk (.deferred (some []))).addBlk (K .ready none)
    simp only [World.size_alloc] at h1
    exact h1
  clear S2
  generalize (w2.alloc (.deferred (some []))).alloc (K .ready none) = w3 at *
  generalize hlp : w2.heap.size + 1 = lp at *
  have HLP : Hid (w2.heap.size + 1 = lp) := hlp
  clear hlp
  generalize w2.heap.size = D at *
  refine (bw_in lp (m + 1) qs ao cap es (by omega) (fun i W => Sep B w0 W (Blk lp (K .ready none) :: Blk D (.deferred (some [])) :: Blk qs (.cells #[.slice ao es.length cap] 22) :: Blk qy (.cells #[.func (.yield lo) #[] #[]] 82) :: Blk qn (ndO (.slice ao es.length cap)) :: Blk qx (thO x) :: J (thL x (es.drop i)))) ?hM ?hY w3 ?h0).mono ?_
  case hM => exact fun i W h => ⟨(Sep.pk [_, _] h).cl.cell 0, Row.to HR.out h.bel hB⟩
  case h0 => rw [List.drop_length]; exact S3.out
  case hY =>
    intro i W1 hi h1
    have TS : Hid _ := thL_step x es hi
    have TL : Hid ((thL x (es.drop (i + 1))).length < 100000) := by
      have := thL_len x (es.drop (i + 1))
      rw [List.length_drop] at this
      show _ < _
      omega
    clear S3
    generalize es[i]! = y at *
    have SA : Hid (Sep B w0 W1 (Blk lp (K .ready none) :: Blk D (.deferred (some [])) :: Blk qs (.cells #[.slice ao es.length cap] 22) :: Blk qy (.cells #[.func (.yield lo) #[] #[]] 82) :: Blk qn (ndO (.slice ao es.length cap)) :: Blk qx (thO x) :: J (thL x (es.drop (i + 1))))) := h1
    clear h1
    refine yield_sep HK.out SA.out rfl ?_
    gi_wp2
    refine ⟨_, (SA.out.addBlk (.cells #[.string y.1, .string y.2] 39)).up1, fun w2 s2 => ?_⟩
    generalize W1.heap.size = qe at *
    clear SA
    have S5 : Hid (Sep B w0 w2 (Blk lp (K .busy none) :: Blk qe (.cells #[.string y.1, .string y.2] 39) :: Blk D (.deferred (some [])) :: Blk qs (.cells #[.slice ao es.length cap] 22) :: Blk qy (.cells #[.func (.yield lo) #[] #[]] 82) :: Blk qn (ndO (.slice ao es.length cap)) :: Blk qx (thO x) :: J (thL x (es.drop (i + 1))))) := s2
    clear s2
    have CX := (Sep.pk [_, _, _, _, _, _] S5.out).cl
    have x0 : w2.cell? ⟨qx, 0, none⟩ = some (.string x.fr) := CX.cell 0
    have x1 : w2.cell? ⟨qx, 1, none⟩ = some (.string x.tt) := CX.cell 1
    have y0 : w2.cell? ⟨qe, 0, none⟩ = some (.string y.1) := S5.out.up1.cl.cell 0
    clear CX
    have CH : Hid _ := has_c x.fr x.tt y.1 w2
    gi_wp2_with fail
    refine ⟨trivial, (callsIn_wide.2 CH.out).mono ?_⟩
    rintro e w4 ⟨rfl, hb4⟩
    have S6 : Hid (Sep B w0 w4 (Blk lp (K .busy none) :: Blk qe (.cells #[.string y.1, .string y.2] 39) :: Blk D (.deferred (some [])) :: Blk qs (.cells #[.slice ao es.length cap] 22) :: Blk qy (.cells #[.func (.yield lo) #[] #[]] 82) :: Blk qn (ndO (.slice ao es.length cap)) :: Blk qx (thO x) :: J (thL x (es.drop (i + 1))))) := S5.out.below hb4
    clear S5 CH hb4 x0 x1 y0
    cases hh : hasB x.fr x.tt y.1
    · rw [hh] at TS
      gi_wp2
      refine ⟨fun _ _ => trivial, ?_⟩
      gi_wp2
      refine ⟨_, S6.out, fun w5 s5 => ?_⟩
      have e := TS.out
      simp only [Bool.false_eq_true, if_false, List.append_nil] at e
      rw [e]
      exact Sep.pk [_] s5 |>.drop
    · rw [hh] at TS
      have y0 : w4.cell? ⟨qe, 0, none⟩ = some (.string y.1) := S6.out.up1.cl.cell 0
      have y1 : w4.cell? ⟨qe, 1, none⟩ = some (.string y.2) := S6.out.up1.cl.cell 1
      have z0 : w4.cell? ⟨qy, 0, none⟩ = some (.func (.yield lo) #[] #[]) := (Sep.pk [_, _, _, _] S6.out).cl.cell 0
      obtain ⟨fn2, tmps2, assign2, body2, hy, hRd⟩ := HY.out w4 (thL x (es.drop (i + 1))) (tE y) [Blk lp (K .busy none), Blk qe (.cells #[.string y.1, .string y.2] 39), Blk D (.deferred (some [])), Blk qs (.cells #[.slice ao es.length cap] 22), Blk qy (.cells #[.func (.yield lo) #[] #[]] 82), Blk qn (ndO (.slice ao es.length cap)), Blk qx (thO x)] (S6.out.perm (List.perm_append_comm (l₁ := [_, _, _, _, _, _, _]))) TL.out
      clear S6
      unfold tE e0 at hy
      gi_wp2
      refine hRd.mono ?_
      rintro e W3 ⟨rfl, hJ3⟩
      have S7 : Hid (Sep B w0 W3 (Blk lp (K .busy none) :: Blk qe (.cells #[.string y.1, .string y.2] 39) :: Blk D (.deferred (some [])) :: Blk qs (.cells #[.slice ao es.length cap] 22) :: Blk qy (.cells #[.func (.yield lo) #[] #[]] 82) :: Blk qn (ndO (.slice ao es.length cap)) :: Blk qx (thO x) :: J (thL x (es.drop i)))) := by
        have e := TS.out
        simp only [if_true] at e
        show Sep _ _ _ _
        rw [e]
        exact hJ3.perm (List.perm_append_comm (l₂ := [_, _, _, _, _, _, _]))
      clear hJ3 hRd hy y0 y1 z0
      gi_wp2
      refine ⟨_, S7.out, fun w5 s5 => ?_⟩
      exact Sep.pk [_] s5 |>.drop
  clear S3
  rintro e W2 ⟨⟨v, rfl⟩, s4⟩
  rw [List.drop_zero] at s4
  have S4 : Hid (Sep B w0 W2 (Blk lp (K .ready none) :: Blk D (.deferred (some [])) :: Blk qs (.cells #[.slice ao es.length cap] 22) :: Blk qy (.cells #[.func (.yield lo) #[] #[]] 82) :: Blk qn (ndO (.slice ao es.length cap)) :: Blk qx (thO x) :: J (thL x es))) := s4
  clear s4
  obtain ⟨o', hrun⟩ : ∃ o', (Instr.endLoop lp).run Tryz.prog W2 = .ok none (W2.putObj lp o') := ⟨_, by
    have hb := S4.out.blk
    rw [HK.out] at hb
    exact run_endLoop hb (by simp)⟩
  refine ⟨none, _, hrun, ?_⟩
  have S5 : Hid (Sep B w0 (W2.putObj lp o') (Blk lp o' :: Blk D (.deferred (some [])) :: Blk qs (.cells #[.slice ao es.length cap] 22) :: Blk qy (.cells #[.func (.yield lo) #[] #[]] 82) :: Blk qn (ndO (.slice ao es.length cap)) :: Blk qx (thO x) :: J (thL x es))) := S4.out.putBlk _
  clear S4 hrun HK
  generalize W2.putObj lp o' = W3 at *
  dsimp only
  have n2 : W3.cell? ⟨qn, 2, none⟩ = some (.slice none 0 0) := (Sep.pk [_, _, _, _] S5.out).cl.cell 2
  gi_wp2_with fail
  refine ⟨trivial, (callsIn_wide.2 (CI.out _)).mono ?_⟩
  rintro e w1 ⟨rfl, rfl⟩
  clear CI n2
  gi_wp2
  have S6 : Hid (Sep B w0 (W3.alloc (.cells #[.slice none 0 0] 40)) (Blk W3.heap.size (.cells #[.slice none 0 0] 40) :: Blk lp o' :: Blk D (.deferred (some [])) :: Blk qs (.cells #[.slice ao es.length cap] 22) :: Blk qy (.cells #[.func (.yield lo) #[] #[]] 82) :: Blk qn (ndO (.slice ao es.length cap)) :: Blk qx (thO x) :: J (thL x es))) := S5.out.addBlk _
  clear S5
  generalize W3.alloc (.cells #[.slice none 0 0] 40) = w6 at *
  generalize W3.heap.size = qt at *
  refine rangeFunc_call rfl (fun _ => trivial) (gf := 65) (lb := #[pt qt]) rfl (enters_of Tryz.func65 (by kernel_rfl) rfl) (by omega) ?_
  intro fn2 K2 hK
  have HK2 : Hid _ := hK
  clear hK
  have S7 : Hid (Sep B w0 ((w6.alloc (.deferred (some []))).alloc (K2 .ready none)) (Blk (w6.heap.size + 1) (K2 .ready none) :: Blk w6.heap.size (.deferred (some [])) :: Blk qt (.cells #[.slice none 0 0] 40) :: Blk lp o' :: Blk D (.deferred (some [])) :: Blk qs (.cells #[.slice ao es.length cap] 22) :: Blk qy (.cells #[.func (.yield lo) #[] #[]] 82) :: Blk qn (ndO (.slice ao es.length cap)) :: Blk qx (thO x) :: J (thL x es))) := by
    have h1 := (S6.out.addBlk (.deferred (some []))).addBlk (K2 .ready none)
    simp only [World.size_alloc] at h1
    exact h1
  clear S6
  generalize (w6.alloc (.deferred (some []))).alloc (K2 .ready none) = w7 at *
  generalize hlp : w6.heap.size + 1 = lp2 at *
  clear hlp
  generalize w6.heap.size = D2 at *
  refine (bwI_none lp2 (m + 1) qt w7 ((Sep.pk [_, _] S7.out).cl.cell 0)).mono ?_
  rintro e W4 ⟨⟨v, rfl⟩, rfl⟩
  obtain ⟨o2, hrun⟩ : ∃ o', (Instr.endLoop lp2).run Tryz.prog W4 = .ok none (W4.putObj lp2 o') := ⟨_, by
    have hb := S7.out.blk
    rw [HK2.out] at hb
    exact run_endLoop hb (by simp)⟩
  refine ⟨none, _, hrun, ?_⟩
  have S8 : Hid (Sep B w0 (W4.putObj lp2 o2) (Blk lp2 o2 :: Blk D2 (.deferred (some [])) :: Blk qt (.cells #[.slice none 0 0] 40) :: Blk lp o' :: Blk D (.deferred (some [])) :: Blk qs (.cells #[.slice ao es.length cap] 22) :: Blk qy (.cells #[.func (.yield lo) #[] #[]] 82) :: Blk qn (ndO (.slice ao es.length cap)) :: Blk qx (thO x) :: J (thL x es))) := S7.out.putBlk _
  clear S7 hrun HK2
  generalize W4.putObj lp2 o2 = W5 at *
  dsimp only
  have hD2 := (Sep.pk [_] S8.out).blk
  have S9 : Hid (Sep B w0 (W5.putObj D2 (.deferred none)) (Blk D2 (.deferred none) :: Blk lp2 o2 :: Blk qt (.cells #[.slice none 0 0] 40) :: Blk lp o' :: Blk D (.deferred (some [])) :: Blk qs (.cells #[.slice ao es.length cap] 22) :: Blk qy (.cells #[.func (.yield lo) #[] #[]] 82) :: Blk qn (ndO (.slice ao es.length cap)) :: Blk qx (thO x) :: J (thL x es))) := (Sep.pk [_] S8.out).putBlk _
  have hD := (Sep.pk [_, _, _, _] S9.out).blk
  have S10 := (Sep.pk [_, _, _, _] S9.out).putBlk (.deferred none)
  have S11 := S10.drop.drop.drop.drop.drop.drop.drop.drop.drop
  clear S8 S9 S10
  gi_wp2
  refine ⟨by simp, .inl ⟨_, _, rfl, run_takeDeferred hD2, ?_⟩⟩
  refine ⟨by simp, .inl ⟨_, _, rfl, run_takeDeferred hD, ?_⟩⟩
  refine ⟨.tuple #[], ?_, ⟨_, rfl⟩, S11⟩
  simp [results, Tryz.f36, go_sem]

end Go.Proofs.YtljmkajpjjdnhaaGreatDoor.N

/-
  The walk of the function that package chain's links answers: the pages of a chain, one behind the other, for every loop body that leaves the file, and what was met, as they are.
-/
import Derived.RangeFuncNested
import Derived.RangeFuncBound
import Derived.RangeFuncCalls
import Derived.RangeFuncLeaves
import Derived.RangeFuncWrites
import Derived.RangeFuncBox
import Derived.Shelf.Abstract
import Derived.Shelf.RegionOpen
import Derived.WalkKit
import Derived.OwnWalkIn
import Derived.TacticsInMore
import Derived.LoopNIn
import Derived.LoopIn
import Derived.Sort.LoopGhostIn
import Derived.Test.YtnjnggjbeklmpaaGreatDoorChLoad
namespace Go.Proofs.YtnjnggjbeklmpaaGreatDoor
open Go.Shelf Go.RowKit Go.Lib Go.Sort
set_option linter.unusedVariables false

attribute [local go_sem] Oper.semAt_some

theorem Hp.perm {w : World} {l l' : List Res} (p : l.Perm l') : ∀ Y, Hp w l Y → Hp w l' Y := by
  induction p with
  | nil => exact fun _ h => h
  | cons a _ ih => exact fun _ h => h.under ih
  | swap a b l => exact fun _ h => h.swap
  | trans _ _ ih1 ih2 => exact fun Y h => ih2 Y (ih1 Y h)
theorem Sep.perm {B : Nat} {w0 w : World} {l l' : List Res} (h : Sep B w0 w l) (p : l.Perm l') : Sep B w0 w l' := h.map (Hp.perm p)
theorem Hp.front {w : World} : ∀ (l1 : List Res) {l2 : List Res} {Y : Nat → Prop}, Hp w (l1 ++ l2) Y → ∃ Y', Hp w l1 Y' ∧ ∀ k, Y' k → Y k
  | [], _, _, _ => ⟨fun _ => False, fun _ h => h, fun _ h => h.elim⟩
  | r :: l1, l2, Y, h => by
    obtain ⟨g, X, Z, hr, hl, hd, hy⟩ := h
    obtain ⟨Y', h1, h2⟩ := Hp.front l1 hl
    exact ⟨fun k => X k ∨ Y' k, ⟨g, X, Y', hr, h1, fun k hk hz => hd k hk (h2 k hz), fun _ => Iff.rfl⟩, fun k hk => (hy k).2 (hk.elim .inl (fun h => .inr (h2 k h)))⟩
theorem Sep.front {B : Nat} {w0 w : World} (l1 : List Res) {l2 : List Res} (h : Sep B w0 w (l1 ++ l2)) : Sep B w0 w l1 := by
  obtain ⟨hB, hb, Y, hl, hY⟩ := h
  obtain ⟨Y', h1, h2⟩ := Hp.front l1 hl
  exact ⟨hB, hb, Y', h1, fun k hk => hY k (h2 k hk)⟩
theorem perm_back {a : Res} {l1 l2 : List Res} : (l1 ++ a :: l2).Perm (a :: (l2 ++ l1)) := List.perm_middle.trans (List.Perm.cons _ List.perm_append_comm)
theorem perm_forth {a : Res} {l1 l2 : List Res} : (a :: (l2 ++ l1)).Perm (l1 ++ a :: l2) := perm_back.symm

theorem perm_page {a r g s t : Res} {J : List Res} : (a :: r :: g :: s :: t :: J).Perm (r :: g :: (J ++ [a, s, t])) :=
  ((List.Perm.swap _ _ _).trans (List.Perm.cons _ (List.Perm.swap _ _ _))).trans (List.Perm.cons _ (List.Perm.cons _ (List.perm_append_comm (l₁ := [a, s, t]))))
theorem perm_page2 {a r g s t : Res} {J : List Res} : (a :: r :: g :: s :: t :: J).Perm (g :: (J ++ [s, t, a, r])) :=
  (perm_back (l1 := [a, r])).trans (List.Perm.cons _ (((List.Perm.append_right _ (List.perm_append_comm (l₁ := [s, t]))).trans (by rw [List.append_assoc]; exact List.Perm.refl _))))
theorem memI_add (ids : List Int) (i : Int) : addB (fun q => decide (q ∈ ids)) i = fun q => decide (q ∈ ids ++ [i]) := by
  funext q
  unfold addB
  rw [← Bool.decide_or, decide_eq_decide, List.mem_append, List.mem_singleton, or_comm]
theorem ld_err (d : Dk) (id : Int) {n : Nat} {ids : List Int} {l : List Pr} (h0 : id ≠ 0) (h : id ∉ ids) (he : (d.ld id).2.2 ≠ 0) : rdC (n + 1) d ids l id = (([], [], (d.ld id).2.2), (d.rd id 3).2) := by
  unfold Dk.ld at he ⊢
  by_cases h1 : (d.rd id 3).1.2 = 0
  · rw [if_pos h1] at he ⊢
    rw [rdC_bad h0 h h1 he]
    rcases prs_cases (d.rd id 3).1.1.data.toList with ⟨n, l, _, _, hp⟩ | ⟨_, hp⟩
    · rw [hp] at he; exact absurd rfl he
    · rw [hp]
  · rw [if_neg h1, rdC_err h0 h h1]
theorem ld_ok (d : Dk) (id : Int) {n : Nat} {ids : List Int} {l : List Pr} (h0 : id ≠ 0) (h : id ∉ ids) (he : (d.ld id).2.2 = 0) : rdC (n + 1) d ids l id = rdC n (d.rd id 3).2 (ids ++ [id]) (l ++ (d.ld id).2.1) (d.ld id).1 ∧ (2 ≤ id ∧ id < d.sure.length) ∧ (d.ld id).2.1.length ≤ 29 := by
  unfold Dk.ld at he ⊢
  by_cases h1 : (d.rd id 3).1.2 = 0
  · rw [if_pos h1] at he ⊢
    exact ⟨rdC_step h0 h h1 he, Dk.rd_has h1, prs_runs_length _⟩
  · rw [if_neg h1] at he
    exfalso
    simp only at he
    split at he
    · cases he
    · exact h1 he

/-- What the function is asked for. -/
abbrev fileV (f : Nat) : Obj := .cells #[ptr f] 26 (0, 0)
abbrev headV (i : Int) : Obj := .cells #[.int .i64 i] 3 (0, 0)

set_option maxRecDepth 100000 in
set_option maxHeartbeats 4000000 in
theorem links1_in {B : Nat} {w0 : World} (T : Tabs B w0) (l m f b qh qf : Nat) (head : Int) (d0 : Dk) (J : List Int → List Pr → List Res) (Jx : Int → List Res) (hL : d0.sure.length ≤ 1000)
    (hY : ∀ W d ids al id nx ao n c ps M, Sep B w0 W (RunR (.slice ao n c) ps :: File f b d :: (J ids al ++ M)) → ids.length ≤ 1000 → al.length ≤ 29 * ids.length → ps.length ≤ 29 →
      YieldAt Fence.wide m Tryz.prog l #[.int .i64 id, .agg #[.int .i64 nx, .slice ao n c, .int .i64 0]] W fun e W' => e = .returned (.bool true) ∧ Sep B w0 W' (RunR (.slice ao n c) ps :: File f b d :: (J (ids ++ [id]) (al ++ ps) ++ M)))
    (hX : ∀ W d ids al id nx ao n c er M, Sep B w0 W (File f b d :: (J ids al ++ M)) → er ≠ 0 →
      YieldAt Fence.wide m Tryz.prog l #[.int .i64 id, .agg #[.int .i64 nx, .slice ao n c, .int .i64 er]] W fun e W' => e = .returned (.bool false) ∧ Sep B w0 W' (File f b d :: Jx er))
    (W : World) (hS : Sep B w0 W (File f b d0 :: Blk qf (fileV f) :: Blk qh (headV head) :: J [] [])) :
    CallsIn Fence.wide (m + 1) Tryz.prog 53 #[.func (.yield l) #[] #[], ptr qh, ptr qf] W fun e W' => (∃ v, e = .returned v) ∧
      (((rdC (d0.sure.length + 1) d0 [] [] head).1.2.2 = 0 ∧ Sep B w0 W' (File f b (rdC (d0.sure.length + 1) d0 [] [] head).2 :: J (rdC (d0.sure.length + 1) d0 [] [] head).1.2.1 (rdC (d0.sure.length + 1) d0 [] [] head).1.1)) ∨
       ((rdC (d0.sure.length + 1) d0 [] [] head).1.2.2 ≠ 0 ∧ Sep B w0 W' (File f b (rdC (d0.sure.length + 1) d0 [] [] head).2 :: Jx (rdC (d0.sure.length + 1) d0 [] [] head).1.2.2))) := by
  obtain ⟨R, hR⟩ : ∃ R, rdC (d0.sure.length + 1) d0 [] [] head = R := ⟨_, rfl⟩
  rw [hR]
  have HR0 : Hid (rdC (d0.sure.length + 1) d0 [] [] head = R) := hR
  generalize hLL : d0.sure.length = L at *
  have hc : W.cell? ⟨qh, 0, none⟩ = some (.int .i64 head) := (show Cl W qh #[.int .i64 head] 3 from hS.up2.blk).cell 0
  have S0 : Hid (Sep B w0 (W.alloc (.map #[] 0)) (SetM W.heap.size (fun _ => false) :: File f b d0 :: Blk qf (fileV f) :: Blk qh (headV head) :: J [] [])) := hS.addSet
  have hmk := makeMet W
  have HY : Hid _ := hY
  have HX : Hid _ := hX
  clear hS hR hY hX
  refine callsIn_of_wp Tryz.func53 rfl trivial ?_ rfl
  simp only [Tryz.ntmps53, List.size_toArray, List.length_cons, List.length_nil, Nat.reduceAdd, Nat.reduceSub, Array.replicate_succ, Array.replicate_zero, List.push_toArray, List.append_toArray, List.nil_append, List.cons_append]
  have hc2 : (W.alloc (.map #[] 0)).cell? ⟨qh, 0, none⟩ = some (.int .i64 head) := Lib.cell?_alloc_some _ hc
  gi_wp2
  clear hmk hc hc2
  generalize W.alloc (.map #[] 0) = W1 at *
  generalize W.heap.size = mm at *
  gi_loopg [5] (L + 1) (fun kx s5 wr => ∃ (id : Int) (d : Dk) (ids : List Int) (al : List Pr), s5 = .int .i64 id ∧ Hid (rdC kx d ids al id = R) ∧ Hid (Sep B w0 wr (SetM mm (fun q => decide (q ∈ ids)) :: File f b d :: Blk qf (fileV f) :: J ids al)) ∧ Hid (PgIds L ids) ∧ Hid (d.sure.length = L) ∧ kx + ids.length = L + 1 ∧ al.length ≤ 29 * ids.length)
  case atStart =>
    refine ⟨head, d0, [], [], rfl, HR0, ?_, PgIds.nil L, hLL, rfl, Nat.le_refl _⟩
    have e : (fun q => decide (q ∈ ([] : List Int))) = fun _ => false := by funext q; simp
    rw [e]
    exact S0.out.up3.drop
  case round =>
    obtain ⟨id, d, ids, al, rfl, HR, HS, HP, HL, hkx, hal⟩ := hrel
    clear S0 HR0
    have hil := HP.out.le
    obtain ⟨k, rfl⟩ : ∃ k, gk = k + 1 := ⟨gk - 1, by omega⟩
    by_cases h0 : id = 0
    · subst h0
      have E : Hid (R = ((al, ids, 0), d)) := by show _ = _; rw [← HR.out, rdC_end]
      gi_wp2
      go_end0
      rw [E.out]
      exact ⟨⟨_, rfl⟩, .inl ⟨rfl, (HS.out.drop.up1.drop)⟩⟩
    · have hne : (id != 0) = true := by rw [bne_iff_ne]; exact h0
      have S2 : Hid (Sep B w0 (wr.alloc (.cells #[.int .i64 0, .slice none 0 0, .int .i64 3] 84)) (SetM mm (fun q => decide (q ∈ ids)) :: Blk wr.heap.size (.cells #[.int .i64 0, .slice none 0 0, .int .i64 3] 84) :: File f b d :: Blk qf (fileV f) :: J ids al)) := (HS.out.addBlk _).up1
      have CA : Hid _ := again_s S2.out id
      rw [memI_add] at CA
      have H0 : Hid (id ≠ 0) := h0
      clear h0 HS
      gi_wp2_with fail
      generalize wr.alloc (.cells #[.int .i64 0, .slice none 0 0, .int .i64 3] 84) = w2 at *
      generalize wr.heap.size = q at *
      refine ⟨trivial, (callsIn_wide.2 CA.out).mono ?_⟩
      rintro e w3 ⟨rfl, s3⟩
      have S3 : Hid (Sep B w0 w3 (SetM mm (fun x => decide (x ∈ ids ++ [id])) :: Blk q (.cells #[.int .i64 0, .slice none 0 0, .int .i64 3] 84) :: File f b d :: Blk qf (fileV f) :: J ids al)) := s3
      clear CA s3 S2
      by_cases hm : id ∈ ids
      · have E : Hid (R = (([], [], 3), d)) := by show _ = _; rw [← HR.out, rdC_again H0.out hm]
        have hdm : decide (id ∈ ids) = true := decide_eq_true hm
        obtain ⟨c0, c1, c2, g0, g1, g2, hq⟩ := S3.out.up1.cl.three
        obtain ⟨fn, tmps, assign, body, hy, hRd⟩ := HX.out w3 d ids al id 0 none 0 0 3 [Blk qf (fileV f), SetM mm (fun x => decide (x ∈ ids ++ [id])), Blk q (.cells #[.int .i64 0, .slice none 0 0, .int .i64 3] 84)] (S3.out.perm (by
          refine (perm_back (l1 := [_, _])).trans (List.Perm.cons _ ?_)
          refine (List.Perm.append_right _ (List.perm_append_comm (l₁ := [_]))).trans ?_
          rw [List.append_assoc]
          exact List.Perm.refl _)) (by decide)
        clear hm
        gi_wp2
        refine hRd.mono ?_
        rintro e w4 ⟨rfl, s4⟩
        have S4 : Hid (Sep B w0 w4 (File f b d :: Jx 3)) := s4
        clear s4 hRd hy
        gi_wp2
        refine bodyPost_ret (results_none rfl _ _ _) rfl ?_
        rw [E.out]
        exact ⟨⟨_, rfl⟩, .inr ⟨(show (3 : Int) ≠ 0 by decide), S4.out⟩⟩
      · have hdm : decide (id ∈ ids) = false := decide_eq_false hm
        have hcf : w3.cell? ⟨qf, 0, none⟩ = some (ptr f) := (show Cl w3 qf #[ptr f] 26 from S3.out.up3.blk).cell 0
        have CL : Hid _ := load_f T S3.out.up2 id
        have HM : Hid (id ∉ ids) := hm
        clear hm
        by_cases he : (d.ld id).2.2 = 0
        · obtain ⟨e1, e2, e3⟩ := ld_ok d id (n := k) (ids := ids) (l := al) H0.out HM.out he
          have HR2 : Hid (rdC k (d.rd id 3).2 (ids ++ [id]) (al ++ (d.ld id).2.1) (d.ld id).1 = R) := e1.symm.trans HR.out
          have HP2 : Hid (PgIds L (ids ++ [id])) := HP.out.snoc HM.out e2.1 (by rw [← HL.out]; exact e2.2)
          have HL2 : Hid ((d.rd id 3).2.sure.length = L) := by show _ = _; rw [(d.rd_same id 3).1]; exact HL.out
          clear HR HP HL e1 e2
          generalize d.rd id 3 = dr at *
          obtain ⟨_, d2⟩ := dr
          generalize d.ld id = dl at *
          obtain ⟨nx, ps, er⟩ := dl
          dsimp only at CL he HR2 HP2 HL2 e3
          subst he
          gi_wp2_with fail
          refine ⟨trivial, (callsIn_wide.2 CL.out).mono ?_⟩
          rintro e w4 ⟨ao, n, c, rfl, s4⟩
          have S4 : Hid (Sep B w0 w4 (Blk q (.cells #[.int .i64 0, .slice none 0 0, .int .i64 3] 84) :: RunR (.slice ao n c) ps :: File f b d2 :: SetM mm (fun x => decide (x ∈ ids ++ [id])) :: Blk qf (fileV f) :: J ids al)) := s4.up3
          clear CL s4 S3 hcf
          obtain ⟨c0, c1, c2, g0, g1, g2, hq⟩ := S4.out.cl.three
          have S5 : Hid (Sep B w0 (((w4.setCell ⟨q, 0, none⟩ (.int .i64 nx)).setCell ⟨q, 1, none⟩ (.slice ao n c)).setCell ⟨q, 2, none⟩ (.int .i64 0)) (Blk q (.cells #[.int .i64 nx, .slice ao n c, .int .i64 0] 84) :: RunR (.slice ao n c) ps :: File f b d2 :: SetM mm (fun x => decide (x ∈ ids ++ [id])) :: Blk qf (fileV f) :: J ids al)) := S4.out.blkSet3 _ _ _
          clear S4
          have S6 : Hid _ := S5.out.perm perm_page
          obtain ⟨k0, k1, k2, _, _, _, _⟩ := S5.out.cl.three
          clear S5
          obtain ⟨fn, tmps, assign, body, hy, hRd⟩ := HY.out _ _ ids al id nx ao n c ps _ S6.out (by omega) hal e3
          clear S6
          gi_wp2
          refine hRd.mono ?_
          rintro e w6 ⟨rfl, s6⟩
          have S7 : Hid (Sep B w0 w6 (Blk q (.cells #[.int .i64 nx, .slice ao n c, .int .i64 0] 84) :: RunR (.slice ao n c) ps :: File f b d2 :: SetM mm (fun x => decide (x ∈ ids ++ [id])) :: Blk qf (fileV f) :: J (ids ++ [id]) (al ++ ps))) := s6.perm perm_page.symm
          clear s6 hRd hy c0 c1 c2 g0 g1 g2 k0 k1 k2
          obtain ⟨c0, c1, c2, g0, g1, g2, hq6⟩ := S7.out.cl.three
          gi_wp2
          go_roundg k
          case measure => omega
          case rel => exact ⟨nx, d2, ids ++ [id], al ++ ps, rfl, HR2, S7.out.drop.drop.up1, HP2, HL2, by simp; omega, by simp; omega⟩
        · have E : Hid (R = (([], [], (d.ld id).2.2), (d.rd id 3).2)) := by show _ = _; rw [← HR.out, ld_err d id H0.out HM.out he]
          clear HR HP HL
          generalize d.rd id 3 = dr at *
          obtain ⟨_, d2⟩ := dr
          generalize d.ld id = dl at *
          obtain ⟨nx, ps, er⟩ := dl
          dsimp only at CL he E
          have HER : Hid (er ≠ 0) := he
          clear he
          gi_wp2_with fail
          refine ⟨trivial, (callsIn_wide.2 CL.out).mono ?_⟩
          rintro e w4 ⟨ao, n, c, rfl, s4⟩
          have S4 : Hid (Sep B w0 w4 (Blk q (.cells #[.int .i64 0, .slice none 0 0, .int .i64 3] 84) :: RunR (.slice ao n c) ps :: File f b d2 :: SetM mm (fun x => decide (x ∈ ids ++ [id])) :: Blk qf (fileV f) :: J ids al)) := s4.up3
          clear CL s4 S3 hcf
          obtain ⟨c0, c1, c2, g0, g1, g2, hq⟩ := S4.out.cl.three
          have S5 : Hid (Sep B w0 (((w4.setCell ⟨q, 0, none⟩ (.int .i64 nx)).setCell ⟨q, 1, none⟩ (.slice ao n c)).setCell ⟨q, 2, none⟩ (.int .i64 er)) (Blk q (.cells #[.int .i64 nx, .slice ao n c, .int .i64 er] 84) :: RunR (.slice ao n c) ps :: File f b d2 :: SetM mm (fun x => decide (x ∈ ids ++ [id])) :: Blk qf (fileV f) :: J ids al)) := S4.out.blkSet3 _ _ _
          clear S4
          have S6 : Hid _ := S5.out.perm perm_page2
          obtain ⟨k0, k1, k2, _, _, _, _⟩ := S5.out.cl.three
          clear S5
          obtain ⟨fn, tmps, assign, body, hy, hRd⟩ := HX.out _ _ ids al id nx ao n c er _ S6.out HER.out
          clear S6
          gi_wp2
          refine hRd.mono ?_
          rintro e w6 ⟨rfl, s6⟩
          have S7 : Hid (Sep B w0 w6 (File f b d2 :: Jx er)) := s6
          clear s6 hRd hy c0 c1 c2 g0 g1 g2 k0 k1 k2
          gi_wp2
          refine bodyPost_ret (results_none rfl _ _ _) rfl ?_
          rw [E.out]
          exact ⟨⟨_, rfl⟩, .inr ⟨HER.out, S7.out⟩⟩

end Go.Proofs.YtnjnggjbeklmpaaGreatDoor

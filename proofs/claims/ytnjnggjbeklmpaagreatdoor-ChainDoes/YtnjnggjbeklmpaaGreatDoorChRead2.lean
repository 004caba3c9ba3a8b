/-
  The walk of package chain's Read, as a whole.
-/
import Derived.Test.YtnjnggjbeklmpaaGreatDoorChRead
namespace Go.Proofs.YtnjnggjbeklmpaaGreatDoor
open Go.Shelf Go.RowKit Go.Lib Go.Sort
set_option linter.unusedVariables false

attribute [local go_sem] Oper.semAt_some

theorem Sep.apart {B : Nat} {w0 w : World} {l : List Res} {q r : Nat} {o o' : Obj} (h : Sep B w0 w (Blk q o :: Blk r o' :: l)) : q ≠ r := by
  obtain ⟨_, _, Y, ⟨_, X, Z, ha, ⟨_, X2, Z2, hb, _, _, hy2⟩, hd, _⟩, _⟩ := h
  rintro rfl
  exact hd q ((ha.2 q).2 rfl) ((hy2 q).2 (.inl ((hb.2 q).2 rfl)))
abbrev nilV : Value := .slice none 0 0
/-- What Read holds between two pages, and behind one that is wrong. -/
def rdJ (q4 q5 q6 q7 q8 D lp : Nat) (K : LoopState → Option Code → Obj) (l : List Res) (ids : List Int) (al : List Pr) : List Res :=
  BoxR q7 al :: BoxI q8 ids :: Blk q4 (.cells #[nilV] 33) :: Blk q5 (.cells #[nilV] 34) :: Blk q6 (.cells #[.int .i64 0] 37) :: Blk D (.deferred (some [])) :: Blk lp (K .ready none) :: l
def rdX (q4 q5 q6 D lp : Nat) (K : LoopState → Option Code → Obj) (l : List Res) (er : Int) : List Res :=
  Blk q4 (.cells #[nilV] 33) :: Blk q5 (.cells #[nilV] 34) :: Blk q6 (.cells #[.int .i64 er] 37) :: Blk D (.deferred (some [])) :: Blk lp (K .done (some .ret)) :: l

theorem rdC_nil : ∀ (m : Nat) (d : Dk) (ids : List Int) (l : List Pr) (i : Int), (rdC m d ids l i).1.2.2 ≠ 0 → (rdC m d ids l i).1.1 = [] ∧ (rdC m d ids l i).1.2.1 = []
  | 0, d, ids, l, i, _ => ⟨rfl, rfl⟩
  | m + 1, d, ids, l, i, h => by
    rw [rdC] at h ⊢
    split
    · rename_i h0; rw [if_pos h0] at h; exact absurd rfl h
    · rename_i h0
      rw [if_neg h0] at h
      split
      · exact ⟨rfl, rfl⟩
      · rename_i h1
        rw [if_neg h1] at h
        split
        · rename_i h2
          rw [if_pos h2] at h
          split
          · rename_i h3
            rw [if_pos h3] at h
            exact rdC_nil m _ _ _ _ h
          · exact ⟨rfl, rfl⟩
        · exact ⟨rfl, rfl⟩
theorem rd_sort {B : Nat} {w0 w : World} {a b c d e f g h i j k : Res} {l : List Res} (s : Sep B w0 w (a :: b :: c :: d :: e :: f :: g :: h :: i :: j :: k :: l)) : Sep B w0 w (h :: i :: j :: k :: a :: b :: c :: d :: e :: f :: g :: l) := by
  refine s.perm ?_
  refine (List.perm_middle (l₁ := [_, _, _, _, _, _, _])).trans (List.Perm.cons _ ?_)
  refine (List.perm_middle (l₁ := [_, _, _, _, _, _, _])).trans (List.Perm.cons _ ?_)
  refine (List.perm_middle (l₁ := [_, _, _, _, _, _, _])).trans (List.Perm.cons _ ?_)
  exact (List.perm_middle (l₁ := [_, _, _, _, _, _, _]))
section
variable {B : Nat} {w0 w : World} {f b : Nat} {d : Dk} {l : List Res}
set_option maxRecDepth 100000 in
set_option maxHeartbeats 4000000 in
theorem cread_f (NO : NormOk) (T : Tabs B w0) (h : Sep B w0 w (File f b d :: l)) (head : Int) (hL : d.sure.length ≤ 1000) :
    Calls Tryz.prog 10 #[ptr f, .int .i64 head] w fun e w' => ∃ a1 n1 c1 a2 n2 c2, e = .returned (.tuple #[.slice a1 n1 c1, .slice a2 n2 c2, .int .i64 (d.cr head).1.2.2]) ∧
      Sep B w0 w' (RunR (.slice a1 n1 c1) (d.cr head).1.1 :: RowR 3 (.slice a2 n2 c2) ((d.cr head).1.2.1.map (Value.int .i64)) :: File f b (d.cr head).2 :: l) := by
  have S5 : Hid (Sep B w0 (((((w.alloc (.cells #[nilV] 33)).alloc (.cells #[nilV] 34)).alloc (.cells #[.int .i64 0] 37)).alloc (.cells #[nilV] 33)).alloc (.cells #[nilV] 34))
      (Blk (w.heap.size + 1 + 1 + 1 + 1) (.cells #[nilV] 34) :: Blk (w.heap.size + 1 + 1 + 1) (.cells #[nilV] 33) :: Blk (w.heap.size + 1 + 1) (.cells #[.int .i64 0] 37) :: Blk (w.heap.size + 1) (.cells #[nilV] 34) :: Blk w.heap.size (.cells #[nilV] 33) :: File f b d :: l)) := by
    have := ((((h.addBlk (.cells #[nilV] 33)).addBlk (.cells #[nilV] 34)).addBlk (.cells #[.int .i64 0] 37)).addBlk (.cells #[nilV] 33)).addBlk (.cells #[nilV] 34)
    simp only [World.size_alloc] at this
    exact this
  have CG : Hid (∀ u, _) := fun u => given_f (f := f) u
  have CK : Hid (∀ u, _) := fun u => links_c (f := f) head u
  clear h
  refine (callsIn_wide (n := 5)).1 ?_
  refine callsIn_of_wp_marks Tryz.func10 rfl trivial ?_ rfl
  simp only [Tryz.ntmps10, List.size_toArray, List.length_cons, List.length_nil, Nat.reduceAdd, Nat.reduceSub, Array.replicate_succ, Array.replicate_zero, List.push_toArray, List.append_toArray, List.nil_append, List.cons_append]
  gi_wp2_with fail
  refine ⟨trivial, (callsIn_wide.2 (CG.out _)).mono ?_⟩
  rintro e w1 ⟨rfl, rfl⟩
  clear CG
  gi_wp2_with fail
  refine ⟨trivial, (callsIn_wide.2 (CK.out _)).mono ?_⟩
  rintro e w2 ⟨rfl, rfl⟩
  clear CK
  generalize ((((w.alloc (.cells #[nilV] 33)).alloc (.cells #[nilV] 34)).alloc (.cells #[.int .i64 0] 37)).alloc (.cells #[nilV] 33)).alloc (.cells #[nilV] 34) = w5 at *
  gi_wp2
  generalize w.heap.size + 1 + 1 + 1 + 1 = q8 at *
  generalize w.heap.size + 1 + 1 + 1 = q7 at *
  generalize w.heap.size + 1 + 1 = q6 at *
  generalize w.heap.size + 1 = q5 at *
  generalize w.heap.size = q4 at *
  have S7 : Hid (Sep B w0 ((w5.alloc (.cells #[ptr f] 26)).alloc (.cells #[.int .i64 head] 3)) (Blk (w5.heap.size + 1) (headV head) :: Blk w5.heap.size (fileV f) ::
      Blk q8 (.cells #[nilV] 34) :: Blk q7 (.cells #[nilV] 33) :: Blk q6 (.cells #[.int .i64 0] 37) :: Blk q5 (.cells #[nilV] 34) :: Blk q4 (.cells #[nilV] 33) :: File f b d :: l)) := by
    have := (S5.out.addBlk (fileV f)).addBlk (headV head)
    simp only [World.size_alloc] at this
    exact this
  clear S5
  generalize (w5.alloc (.cells #[ptr f] 26)).alloc (.cells #[.int .i64 head] 3) = w7 at *
  generalize w5.heap.size + 1 = qh at *
  generalize w5.heap.size = qf at *
  have ECR : Hid (d.cr head = ((nmL (rdC (d.sure.length + 1) d [] [] head).1.1, (rdC (d.sure.length + 1) d [] [] head).1.2.1, (rdC (d.sure.length + 1) d [] [] head).1.2.2), (rdC (d.sure.length + 1) d [] [] head).2)) := rfl
  have LEN : Hid _ := rdC_len (d.sure.length + 1) d [] [] head
  refine rangeFunc_call rfl (fun _ => trivial) (gf := 53) (lb := #[ptr qh, ptr qf]) rfl (enters_of Tryz.func53 (by kernel_rfl) rfl) (by decide) ?_
  intro fn K hK
  have HK : Hid _ := hK
  clear hK
  have S9 : Hid (Sep B w0 ((w7.alloc (.deferred (some []))).alloc (K .ready none)) (File f b d :: Blk qf (fileV f) :: Blk qh (headV head) :: rdJ q4 q5 q6 q7 q8 w7.heap.size (w7.heap.size + 1) K l [] [])) := by
    have h1 := (S7.out.addBlk (.deferred (some []))).addBlk (K .ready none)
    simp only [World.size_alloc] at h1
    -- lp :: D :: qh :: qf :: q8 :: q7 :: q6 :: q5 :: q4 :: File :: l
    have h2 := h1.perm (List.perm_middle (l₁ := [_, _, _, _]))
    have h3 := (Sep.toBoxI (t := []) ((h2.addNil 3).up1))
    have h4 := h3.perm (List.perm_middle (l₁ := [_, _, _, _, _]))
    have h5 := (Sep.toBoxR (s := []) ((h4.addRun (Below.refl _ _) (OwnP.empty _ _)).up1))
    refine h5.perm ?_
    -- q7 :: q8 :: lp :: D :: qh :: qf :: q6 :: q5 :: q4 :: File :: l
    unfold rdJ
    refine (List.perm_middle (l₁ := [_, _, _, _, _, _, _, _, _])).trans (List.Perm.cons _ ?_)
    refine (List.perm_middle (l₁ := [_, _, _, _, _])).trans (List.Perm.cons _ ?_)
    refine (List.perm_middle (l₁ := [_, _, _, _])).trans (List.Perm.cons _ (List.Perm.cons _ (List.Perm.cons _ ?_)))
    refine (List.perm_middle (l₁ := [_, _, _, _])).trans (List.Perm.cons _ ?_)
    refine (List.perm_middle (l₁ := [_, _, _])).trans (List.Perm.cons _ ?_)
    refine (List.perm_middle (l₁ := [_, _])).trans (List.Perm.cons _ ?_)
    exact List.Perm.swap _ _ _
  clear S7
  generalize (w7.alloc (.deferred (some []))).alloc (K .ready none) = w9 at *
  generalize hlp : w7.heap.size + 1 = lp at *
  have HLP : Hid (w7.heap.size + 1 = lp) := hlp
  clear hlp
  generalize w7.heap.size = D at *
  refine (links1_in T lp 3 f b qh qf head d (rdJ q4 q5 q6 q7 q8 D lp K l) (rdX q4 q5 q6 D lp K l) hL ?hY ?hX w9 S9.out).mono ?_
  case hY =>
    intro W d1 ids al id nx ao n c ps M S hl1 hl2 hl3
    clear S9 ECR LEN
    have S1 : Hid (Sep B w0 W (Blk lp (K .ready none) :: RunR (.slice ao n c) ps :: File f b d1 :: BoxR q7 al :: BoxI q8 ids :: Blk q4 (.cells #[nilV] 33) :: Blk q5 (.cells #[nilV] 34) :: Blk q6 (.cells #[.int .i64 0] 37) :: Blk D (.deferred (some [])) :: (l ++ M))) := S.perm (by unfold rdJ; exact (List.perm_middle (l₁ := [_, _, _, _, _, _, _, _])))
    clear S
    refine yield_sep HK.out S1.out rfl ?_
    gi_wp2
    refine ⟨_, (S1.out.addBlk (.cells #[.int .i64 nx, .slice ao n c, .int .i64 0] 84)).up1, fun w2 s2 => ?_⟩
    generalize W.heap.size = qp at *
    clear S1
    obtain ⟨p0, p1, p2, _, _, _, _⟩ := s2.up1.cl.three
    have RP : Aside (Row encP 2 w2 (.slice ao n c) ps) := (s2.up2).run.own.row
    have HLR : Hid (al.length + ps.length < 1000000) := by show _ < _; omega
    have hl1' : ids.length < 100000 := by omega
    obtain ⟨ao7, c7, s3⟩ := (s2.perm (List.perm_middle (l₁ := [_, _, _, _]))).boxR
    have k7 : w2.cell? ⟨q7, 0, none⟩ = some (.slice ao7 al.length c7) := s3.cl.cell 0
    have S3 : Hid (Sep B w0 w2 (RunR (.slice ao7 al.length c7) al :: Blk q7 (.cells #[.slice ao7 al.length c7] 33) :: Blk lp (K .busy none) :: Blk qp (.cells #[.int .i64 nx, .slice ao n c, .int .i64 0] 84) :: RunR (.slice ao n c) ps :: File f b d1 :: BoxI q8 ids :: Blk q4 (.cells #[nilV] 33) :: Blk q5 (.cells #[nilV] 34) :: Blk q6 (.cells #[.int .i64 0] 37) :: Blk D (.deferred (some [])) :: (l ++ M))) := s3.up1
    clear s2 s3
    gi_wp2_with (gi_at_builtin; refine appIn_runs rfl _ _ rfl _ al rfl S3.out _ ps rfl RP.out HLR.out ?_)
    intro ao3 n3 c3 w3 s4
    have k7' : w3.cell? ⟨q7, 0, none⟩ = some (.slice ao7 al.length c7) := s4.up1.cl.cell 0
    have f7 := s4.up1.cl.frozen 0
    have S5 : Hid (Sep B w0 (w3.setCell ⟨q7, 0, none⟩ (.slice ao3 n3 c3)) (BoxI q8 ids :: BoxR q7 (al ++ ps) :: Blk lp (K .busy none) :: Blk qp (.cells #[.int .i64 nx, .slice ao n c, .int .i64 0] 84) :: RunR (.slice ao n c) ps :: File f b d1 :: Blk q4 (.cells #[nilV] 33) :: Blk q5 (.cells #[nilV] 34) :: Blk q6 (.cells #[.int .i64 0] 37) :: Blk D (.deferred (some [])) :: (l ++ M))) := (Sep.toBoxR (s := al ++ ps) (s4.up1.blkSet 0 (.slice ao3 n3 c3))).perm (List.perm_middle (l₁ := [_, _, _, _, _]))
    clear s4 S3 RP p0 p1 p2 k7
    obtain ⟨ao8, c8, s6⟩ := S5.out.boxI
    have k8 : (w3.setCell ⟨q7, 0, none⟩ (.slice ao3 n3 c3)).cell? ⟨q8, 0, none⟩ = some (.slice ao8 ids.length c8) := s6.cl.cell 0
    have S6 : Hid (Sep B w0 (w3.setCell ⟨q7, 0, none⟩ (.slice ao3 n3 c3)) (RowR 3 (.slice ao8 ids.length c8) (ids.map (Value.int .i64)) :: Blk q8 (.cells #[.slice ao8 ids.length c8] 34) :: BoxR q7 (al ++ ps) :: Blk lp (K .busy none) :: Blk qp (.cells #[.int .i64 nx, .slice ao n c, .int .i64 0] 84) :: RunR (.slice ao n c) ps :: File f b d1 :: Blk q4 (.cells #[nilV] 33) :: Blk q5 (.cells #[nilV] 34) :: Blk q6 (.cells #[.int .i64 0] 37) :: Blk D (.deferred (some [])) :: (l ++ M))) := s6.up1
    have cn : ((w3.setCell ⟨q7, 0, none⟩ (.slice ao3 n3 c3)).alloc (.cells #[.int .i64 id] 3)).cell? ⟨w3.heap.size, 0, none⟩ = some (.int .i64 id) := by
      have hz : (w3.setCell ⟨q7, 0, none⟩ (.slice ao3 n3 c3)).heap.size = w3.heap.size := by simp [World.setCell]
      rw [← hz]
      exact (Cl.new (w3.setCell ⟨q7, 0, none⟩ (.slice ao3 n3 c3)) #[.int .i64 id] 3).cell 0
    have hi8 : (ids.map (Value.int .i64)).length < 100000 := by rw [List.length_map]; omega
    clear s6 S5
    gi_wp2_with (gi_at_builtin; refine appIn_int rfl _ _ rfl _ _ rfl (S6.out.alloc _) _ _ id rfl cn hi8 ?_)
    intro ao9 n9 c9 w9 s7
    have k9 : w9.cell? ⟨q8, 0, none⟩ = some (.slice ao8 ids.length c8) := s7.up1.cl.cell 0
    have f9 := s7.up1.cl.frozen 0
    rw [show ids.map (Value.int .i64) ++ [.int .i64 id] = (ids ++ [id]).map (Value.int .i64) by simp] at s7
    have S8 : Hid (Sep B w0 (w9.setCell ⟨q8, 0, none⟩ (.slice ao9 n9 c9)) (Blk lp (K .busy none) :: BoxI q8 (ids ++ [id]) :: BoxR q7 (al ++ ps) :: Blk qp (.cells #[.int .i64 nx, .slice ao n c, .int .i64 0] 84) :: RunR (.slice ao n c) ps :: File f b d1 :: Blk q4 (.cells #[nilV] 33) :: Blk q5 (.cells #[nilV] 34) :: Blk q6 (.cells #[.int .i64 0] 37) :: Blk D (.deferred (some [])) :: (l ++ M))) := (Sep.toBoxI (t := ids ++ [id]) (s7.up1.blkSet 0 (.slice ao9 n9 c9))).up2
    clear s7 S6 k8 k7' f7 hi8
    gi_wp2
    refine ⟨_, S8.out, fun w4 s4 => ?_⟩
    refine (s4.perm (List.perm_middle (l₁ := [_, _, _]))).drop.perm ?_
    unfold rdJ
    refine (List.perm_middle (l₁ := [_, _, _])).trans (List.Perm.cons _ ?_)
    refine (List.perm_middle (l₁ := [_, _, _])).trans (List.Perm.cons _ ?_)
    refine (List.perm_middle (l₁ := [_, _])).trans (List.Perm.cons _ ?_)
    refine (List.perm_middle (l₁ := [_])).trans (List.Perm.cons _ ?_)
    exact (List.perm_middle (l₁ := [_, _, _, _])).symm
  case hX =>
    intro W d1 ids al id nx ao n c er M S her
    clear S9 ECR LEN
    have S1 : Hid (Sep B w0 W (Blk lp (K .ready none) :: File f b d1 :: BoxR q7 al :: BoxI q8 ids :: Blk q4 (.cells #[nilV] 33) :: Blk q5 (.cells #[nilV] 34) :: Blk q6 (.cells #[.int .i64 0] 37) :: Blk D (.deferred (some [])) :: (l ++ M))) := S.perm (by unfold rdJ; exact (List.perm_middle (l₁ := [_, _, _, _, _, _, _])))
    clear S
    have hne : (er != 0) = true := by rw [bne_iff_ne]; exact her
    refine yield_sep HK.out S1.out rfl ?_
    gi_wp2
    refine ⟨_, (S1.out.addBlk (.cells #[.int .i64 nx, .slice ao n c, .int .i64 er] 84)).up1, fun w2 s2 => ?_⟩
    generalize W.heap.size = qp at *
    clear S1 her
    have S2 : Hid (Sep B w0 w2 (Blk q4 (.cells #[nilV] 33) :: Blk lp (K .busy none) :: Blk qp (.cells #[.int .i64 nx, .slice ao n c, .int .i64 er] 84) :: File f b d1 :: BoxR q7 al :: BoxI q8 ids :: Blk q5 (.cells #[nilV] 34) :: Blk q6 (.cells #[.int .i64 0] 37) :: Blk D (.deferred (some [])) :: (l ++ M))) := s2.perm (List.perm_middle (l₁ := [_, _, _, _, _]))
    obtain ⟨p0, p1, p2, _, _, _, _⟩ := s2.up1.cl.three
    have b5 := (S2.out.perm (List.perm_middle (l₁ := [_, _, _, _, _, _]))).cl
    have b6 := (S2.out.perm (List.perm_middle (l₁ := [_, _, _, _, _, _, _]))).cl
    have k4 : w2.cell? ⟨q4, 0, none⟩ = some nilV := S2.out.cl.cell 0
    have f4 := S2.out.cl.frozen 0
    have k5 : w2.cell? ⟨q5, 0, none⟩ = some nilV := b5.cell 0
    have f5 := b5.frozen 0
    have k6 : w2.cell? ⟨q6, 0, none⟩ = some (.int .i64 0) := b6.cell 0
    have f6 := b6.frozen 0
    have n45 : q4 ≠ q5 := ((S2.out.perm (List.perm_middle (l₁ := [_, _, _, _, _, _]))).up1).apart
    have n46 : q4 ≠ q6 := ((S2.out.perm (List.perm_middle (l₁ := [_, _, _, _, _, _, _]))).up1).apart
    have n56 : q5 ≠ q6 := (((S2.out.perm (List.perm_middle (l₁ := [_, _, _, _, _, _]))).perm (List.perm_middle (l₁ := [_, _, _, _, _, _, _]))).up1).apart
    have n54 := n45.symm
    have n64 := n46.symm
    have n65 := n56.symm
    have npq : qp ≠ q4 ∧ qp ≠ q5 ∧ qp ≠ q6 := by
      refine ⟨fun e => ?_, fun e => ?_, fun e => ?_⟩
      · exact ((S2.out.perm (List.perm_middle (l₁ := [_, _]))).apart) e
      · exact ((S2.out.perm (List.perm_middle (l₁ := [_, _, _, _, _, _]))).perm (List.perm_middle (l₁ := [_, _, _]))).apart e
      · exact ((S2.out.perm (List.perm_middle (l₁ := [_, _, _, _, _, _, _]))).perm (List.perm_middle (l₁ := [_, _, _]))).apart e
    obtain ⟨np4, np5, np6⟩ := npq
    clear s2 b5 b6
    have hmx : Tryz.prog.follows .mixedOrders = true := by kernel_rfl
    gi_wp2_with fail
    gi_region_with_o (fail)
    all_goals
      have S6 : Hid (Sep B w0 (((w2.setCell ⟨q4, 0, none⟩ nilV).setCell ⟨q5, 0, none⟩ nilV).setCell ⟨q6, 0, none⟩ (.int .i64 er)) (Blk q6 (.cells #[.int .i64 er] 37) :: Blk q5 (.cells #[nilV] 34) :: Blk q4 (.cells #[nilV] 33) :: Blk lp (K .busy none) :: Blk qp (.cells #[.int .i64 nx, .slice ao n c, .int .i64 er] 84) :: File f b d1 :: BoxR q7 al :: BoxI q8 ids :: Blk D (.deferred (some [])) :: (l ++ M))) := ((((S2.out.blkSet 0 nilV).perm (List.perm_middle (l₁ := [_, _, _, _, _, _]))).blkSet 0 nilV).perm (List.perm_middle (l₁ := [_, _, _, _, _, _, _]))).blkSet 0 (.int .i64 er)
      clear S2 k4 k5 k6 f4 f5 f6 p0 p1 p2
      gi_wp2
      refine ⟨_, S6.out.up3.drew, fun w4 s4 => ?_⟩
      have s5 := (s4.perm (List.perm_middle (l₁ := [_, _, _, _]))).drop
      have s6 := (s5.perm (List.perm_middle (l₁ := [_, _, _, _, _]))).drop
      have s7 := (s6.perm (List.perm_middle (l₁ := [_, _, _, _, _]))).drop
      refine Sep.front (File f b d1 :: rdX q4 q5 q6 D lp K l er) (l2 := M) (s7.perm ?_)
      unfold rdX
      refine (List.perm_middle (l₁ := [_, _, _, _])).trans (List.Perm.cons _ ?_)
      refine (List.perm_middle (l₁ := [_, _, _])).trans (List.Perm.cons _ ?_)
      refine (List.perm_middle (l₁ := [_, _])).trans (List.Perm.cons _ ?_)
      refine (List.perm_middle (l₁ := [_])).trans (List.Perm.cons _ ?_)
      exact List.Perm.swap _ _ _
  clear S9
  rintro e W2 ⟨⟨v, rfl⟩, (⟨h0, s⟩ | ⟨hne, s⟩)⟩
  · generalize rdC (d.sure.length + 1) d [] [] head = R at *
    obtain ⟨⟨al, ids, e0⟩, dF⟩ := R
    dsimp only at h0 s ECR LEN
    subst h0
    have S10 : Hid (Sep B w0 W2 (Blk lp (K .ready none) :: File f b dF :: BoxR q7 al :: BoxI q8 ids :: Blk q4 (.cells #[nilV] 33) :: Blk q5 (.cells #[nilV] 34) :: Blk q6 (.cells #[.int .i64 0] 37) :: Blk D (.deferred (some [])) :: l)) := s.perm (by unfold rdJ; exact (List.perm_middle (l₁ := [_, _, _, _, _, _, _])))
    clear s
    obtain ⟨o', hrun⟩ : ∃ o', (Instr.endLoop lp).run Tryz.prog W2 = .ok none (W2.putObj lp o') := ⟨_, by
      have hb := S10.out.blk
      rw [HK.out] at hb
      exact run_endLoop hb (by simp)⟩
    refine ⟨none, _, hrun, ?_⟩
    have S11 : Hid (Sep B w0 (W2.putObj lp o') (Blk lp o' :: File f b dF :: BoxR q7 al :: BoxI q8 ids :: Blk q4 (.cells #[nilV] 33) :: Blk q5 (.cells #[nilV] 34) :: Blk q6 (.cells #[.int .i64 0] 37) :: Blk D (.deferred (some [])) :: l)) := S10.out.putBlk _
    clear S10 hrun HK
    generalize W2.putObj lp o' = W3 at *
    dsimp only
    gi_wp2_with fail
    refine wpIn_wide.2 ?_
    obtain ⟨a7, c7, s12⟩ := (S11.out.perm (List.perm_middle (l₁ := [_, _]))).boxR
    obtain ⟨a8, c8, s13⟩ := (s12.perm (List.perm_middle (l₁ := [_, _, _, _]))).boxI
    have z7 : W3.drew.cell? ⟨q7, 0, none⟩ = some (.slice a7 al.length c7) := s12.cl.cell 0
    have z8 : W3.drew.cell? ⟨q8, 0, none⟩ = some (.slice a8 ids.length c8) := s13.cl.cell 0
    have hl29 : al.length ≤ 100000 := by have := LEN.out.1; simp at this; omega
    have CN : Hid _ := NO (.slice a7 al.length c7) al W3.drew (s12.up1.run.own.row.drew) hl29
    have SD : Hid (Sep B w0 W3.drew (Blk q8 (.cells #[.slice a8 ids.length c8] 34) :: RowR 3 (.slice a8 ids.length c8) (ids.map (Value.int .i64)) :: Blk q7 (.cells #[.slice a7 al.length c7] 33) :: RunR (.slice a7 al.length c7) al :: Blk lp o' :: File f b dF :: Blk q4 (.cells #[nilV] 33) :: Blk q5 (.cells #[nilV] 34) :: Blk q6 (.cells #[.int .i64 0] 37) :: Blk D (.deferred (some [])) :: l)) := s13.drew
    clear s12 s13 S11
    go_region_held3 (fun w' => w'.cell? ⟨q7, 0, none⟩ = some (.slice a7 al.length c7) ∧ w'.cell? ⟨q8, 0, none⟩ = some (.slice a8 ids.length c8)) (first | assumption | exact ⟨z7, z8⟩ | exact ⟨t7, t8⟩ | exact ⟨t7a, t8a⟩ | exact ⟨t7b, t8b⟩ | exact ⟨t7c, t8c⟩) ((go_at_call 23; refine Calls.mono CN.out ?_; rintro e wy ⟨v1, rfl, o1, b1⟩; obtain ⟨av, cv, rfl, _⟩ := OwnP.shape o1; have SX : Hid (Sep B w0 wy (Blk q4 (.cells #[nilV] 33) :: Blk q5 (.cells #[nilV] 34) :: Blk q6 (.cells #[.int .i64 0] 37) :: Blk D (.deferred (some [])) :: RunR (.slice av (nmL al).length cv) (nmL al) :: Blk q8 (.cells #[.slice a8 ids.length c8] 34) :: RowR 3 (.slice a8 ids.length c8) (ids.map (Value.int .i64)) :: Blk q7 (.cells #[.slice a7 al.length c7] 33) :: RunR (.slice a7 al.length c7) al :: Blk lp o' :: File f b dF :: l)) := rd_sort (SD.out.addRun b1 o1); have t7 : wy.cell? ⟨q7, 0, none⟩ = some (.slice a7 al.length c7) := (Sep.cl (SX.out.perm (List.perm_middle (l₁ := [_, _, _, _, _, _, _])))).cell 0; have t8 : wy.cell? ⟨q8, 0, none⟩ = some (.slice a8 ids.length c8) := (Sep.cl (SX.out.perm (List.perm_middle (l₁ := [_, _, _, _, _])))).cell 0; have n45 := SX.out.apart; have n46 := (SX.out.up2).up1.apart; have n56 := SX.out.drop.apart; have n54 := n45.symm; have n64 := n46.symm; have n65 := n56.symm; have k4 : wy.cell? ⟨q4, 0, none⟩ = some nilV := SX.out.cl.cell 0; have f4 := SX.out.cl.frozen 0; have k5 : wy.cell? ⟨q5, 0, none⟩ = some nilV := SX.out.up1.cl.cell 0; have f5 := SX.out.up1.cl.frozen 0; have k6 : wy.cell? ⟨q6, 0, none⟩ = some (.int .i64 0) := SX.out.up2.cl.cell 0; have f6 := SX.out.up2.cl.frozen 0; have SA : Hid (Sep B w0 (wy.setCell ⟨q4, 0, none⟩ (.slice av (nmL al).length cv)) (Blk q4 (.cells #[.slice av (nmL al).length cv] 33) :: Blk q5 (.cells #[nilV] 34) :: Blk q6 (.cells #[.int .i64 0] 37) :: Blk D (.deferred (some [])) :: RunR (.slice av (nmL al).length cv) (nmL al) :: Blk q8 (.cells #[.slice a8 ids.length c8] 34) :: RowR 3 (.slice a8 ids.length c8) (ids.map (Value.int .i64)) :: Blk q7 (.cells #[.slice a7 al.length c7] 33) :: RunR (.slice a7 al.length c7) al :: Blk lp o' :: File f b dF :: l)) := SX.out.blkSet 0 (.slice av (nmL al).length cv); have SB : Hid (Sep B w0 ((wy.setCell ⟨q4, 0, none⟩ (.slice av (nmL al).length cv)).setCell ⟨q5, 0, none⟩ (.slice a8 ids.length c8)) (Blk q5 (.cells #[.slice a8 ids.length c8] 34) :: Blk q4 (.cells #[.slice av (nmL al).length cv] 33) :: Blk q6 (.cells #[.int .i64 0] 37) :: Blk D (.deferred (some [])) :: RunR (.slice av (nmL al).length cv) (nmL al) :: Blk q8 (.cells #[.slice a8 ids.length c8] 34) :: RowR 3 (.slice a8 ids.length c8) (ids.map (Value.int .i64)) :: Blk q7 (.cells #[.slice a7 al.length c7] 33) :: RunR (.slice a7 al.length c7) al :: Blk lp o' :: File f b dF :: l)) := SA.out.up1.blkSet 0 (.slice a8 ids.length c8); have SC : Hid (Sep B w0 (((wy.setCell ⟨q4, 0, none⟩ (.slice av (nmL al).length cv)).setCell ⟨q5, 0, none⟩ (.slice a8 ids.length c8)).setCell ⟨q6, 0, none⟩ (.int .i64 0)) (Blk q6 (.cells #[.int .i64 0] 37) :: Blk q5 (.cells #[.slice a8 ids.length c8] 34) :: Blk q4 (.cells #[.slice av (nmL al).length cv] 33) :: Blk D (.deferred (some [])) :: RunR (.slice av (nmL al).length cv) (nmL al) :: Blk q8 (.cells #[.slice a8 ids.length c8] 34) :: RowR 3 (.slice a8 ids.length c8) (ids.map (Value.int .i64)) :: Blk q7 (.cells #[.slice a7 al.length c7] 33) :: RunR (.slice a7 al.length c7) al :: Blk lp o' :: File f b dF :: l)) := SB.out.up2.blkSet 0 (.int .i64 0); have t7a := (Sep.cl (SA.out.perm (List.perm_middle (l₁ := [_, _, _, _, _, _, _])))).cell 0; have t8a := (Sep.cl (SA.out.perm (List.perm_middle (l₁ := [_, _, _, _, _])))).cell 0; have t7b := (Sep.cl (SB.out.perm (List.perm_middle (l₁ := [_, _, _, _, _, _, _])))).cell 0; have t8b := (Sep.cl (SB.out.perm (List.perm_middle (l₁ := [_, _, _, _, _])))).cell 0; have t7c := (Sep.cl (SC.out.perm (List.perm_middle (l₁ := [_, _, _, _, _, _, _])))).cell 0; have t8c := (Sep.cl (SC.out.perm (List.perm_middle (l₁ := [_, _, _, _, _])))).cell 0; clear o1 b1))
    all_goals
      clear z7 z8 t7 t8 t7a t8a t7b t8b t7c t8c k4 k5 k6 f4 f5 f6 SA SB SX SD CN
      generalize ((wy.setCell ⟨q4, 0, none⟩ (.slice av (nmL al).length cv)).setCell ⟨q5, 0, none⟩ (.slice a8 ids.length c8)).setCell ⟨q6, 0, none⟩ (.int .i64 0) = wz at *
      have hD := (SC.out.perm (List.perm_middle (l₁ := [_, _, _]))).blk
      have S14 : Hid _ := (SC.out.perm (List.perm_middle (l₁ := [_, _, _]))).putBlk (.deferred none)
      have y6 : (wz.putObj D (.deferred none)).cell? ⟨q6, 0, none⟩ = some (.int .i64 0) := (Sep.cl (Sep.up1 S14.out)).cell 0
      have y5 : (wz.putObj D (.deferred none)).cell? ⟨q5, 0, none⟩ = some (.slice a8 ids.length c8) := (Sep.cl (Sep.up2 S14.out)).cell 0
      have y4 : (wz.putObj D (.deferred none)).cell? ⟨q4, 0, none⟩ = some (.slice av (nmL al).length cv) := (Sep.cl (Sep.up3 S14.out)).cell 0
      have S15 := (Sep.drop (Sep.drop (Sep.drop (Sep.drop S14.out))))
      have S16 : Hid (Sep B w0 (wz.putObj D (.deferred none)) (RunR (.slice av (nmL al).length cv) (nmL al) :: RowR 3 (.slice a8 ids.length c8) (ids.map (Value.int .i64)) :: File f b dF :: l)) := ((((S15.perm (List.perm_middle (l₁ := [_]))).drop.perm (List.perm_middle (l₁ := [_, _]))).drop.perm (List.perm_middle (l₁ := [_, _]))).drop.perm (List.perm_middle (l₁ := [_, _]))).drop
      clear S14 S15 SC
      go_wp2
      gi_wp2
      refine ⟨by simp, .inl ⟨_, _, rfl, run_takeDeferred hD, ?_⟩⟩
      rw [ECR.out]
      refine ⟨.tuple #[.slice av (nmL al).length cv, .slice a8 ids.length c8, .int .i64 0], ?_, av, _, cv, a8, _, c8, rfl, S16.out⟩
      simp [results, Tryz.f10, go_sem, y4, y5, y6]
  · have HN0 : Hid _ := rdC_nil (d.sure.length + 1) d [] [] head hne
    generalize rdC (d.sure.length + 1) d [] [] head = R at *
    obtain ⟨⟨al, ids, er⟩, dF⟩ := R
    dsimp only at hne s ECR HN0
    obtain ⟨rfl, rfl⟩ := HN0.out
    have S10 : Hid (Sep B w0 W2 (Blk lp (K .done (some .ret)) :: File f b dF :: Blk q4 (.cells #[nilV] 33) :: Blk q5 (.cells #[nilV] 34) :: Blk q6 (.cells #[.int .i64 er] 37) :: Blk D (.deferred (some [])) :: l)) := s.perm (by unfold rdX; exact (List.perm_middle (l₁ := [_, _, _, _, _])))
    clear s HN0 LEN
    obtain ⟨o', hrun⟩ : ∃ o', (Instr.endLoop lp).run Tryz.prog W2 = .ok (some .ret) (W2.putObj lp o') := ⟨_, by
      have hb := S10.out.blk
      rw [HK.out] at hb
      exact run_endLoop hb (by simp)⟩
    refine ⟨some .ret, _, hrun, ?_⟩
    have S11 : Hid (Sep B w0 (W2.putObj lp o') (Blk lp o' :: File f b dF :: Blk q4 (.cells #[nilV] 33) :: Blk q5 (.cells #[nilV] 34) :: Blk q6 (.cells #[.int .i64 er] 37) :: Blk D (.deferred (some [])) :: l)) := S10.out.putBlk _
    clear S10 hrun HK
    generalize W2.putObj lp o' = wz at *
    have hD := (S11.out.perm (List.perm_middle (l₁ := [_, _, _, _, _]))).blk
    have S14 : Hid (Sep B w0 (wz.putObj D (.deferred none)) (Blk D (.deferred none) :: Blk lp o' :: File f b dF :: Blk q4 (.cells #[nilV] 33) :: Blk q5 (.cells #[nilV] 34) :: Blk q6 (.cells #[.int .i64 er] 37) :: l)) := (S11.out.perm (List.perm_middle (l₁ := [_, _, _, _, _]))).putBlk (.deferred none)
    have y4 : (wz.putObj D (.deferred none)).cell? ⟨q4, 0, none⟩ = some nilV := (Sep.cl (S14.out.perm (List.perm_middle (l₁ := [_, _, _])))).cell 0
    have y5 : (wz.putObj D (.deferred none)).cell? ⟨q5, 0, none⟩ = some nilV := (Sep.cl (S14.out.perm (List.perm_middle (l₁ := [_, _, _, _])))).cell 0
    have y6 : (wz.putObj D (.deferred none)).cell? ⟨q6, 0, none⟩ = some (.int .i64 er) := (Sep.cl (S14.out.perm (List.perm_middle (l₁ := [_, _, _, _, _])))).cell 0
    have S16 : Hid (Sep B w0 (wz.putObj D (.deferred none)) (RunR nilV [] :: RowR 3 nilV ((([] : List Int)).map (Value.int .i64)) :: File f b dF :: l)) := (((((S14.out.drop.drop.up1.drop.up1.drop.up1.drop))).addNil 3).addRun (Below.refl _ _) (OwnP.empty _ _))
    clear S14 S11
    dsimp only
    gi_wp2
    refine ⟨by simp, .inl ⟨_, _, rfl, run_takeDeferred hD, ?_⟩⟩
    rw [ECR.out]
    refine ⟨.tuple #[nilV, nilV, .int .i64 er], ?_, none, 0, 0, none, 0, 0, rfl, S16.out⟩
    simp [results, Tryz.f10, go_sem, y4, y5, y6]
end

end Go.Proofs.YtnjnggjbeklmpaaGreatDoor

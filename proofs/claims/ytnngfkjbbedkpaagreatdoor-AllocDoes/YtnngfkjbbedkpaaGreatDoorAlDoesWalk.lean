/-
  The walk of AllocDoes.
-/
import Derived.Test.YtnngfkjbbedkpaaGreatDoorAlInts
import Derived.Deep.LoopGhost
namespace Go.Proofs.YtnngfkjbbedkpaaGreatDoor
open Go.Shelf Go.RowKit Go.Lib Go.Sort
set_option linter.unusedVariables false

set_option maxRecDepth 100000 in
set_option maxHeartbeats 16000000 in
theorem allocDoes (sectors : Int) (fv : Value) (fr : List Pr) (pages : Int) (lv : Value) (l : List A10) (w : World) (TB : Tab w) (hs : -9223372036854775808 ≤ sectors ∧ sectors ≤ 9223372036854775807) (hF : Row encP 2 w fv fr) (hp : -9223372036854775808 ≤ pages ∧ pages ≤ 9223372036854775807) (hL : ActR10 w lv l) :
    Calls Tryz.prog 3 #[.int .i64 sectors, fv, .int .i64 pages, lv] w fun e w' => e = .returned (.bool true) ∧ Below w.heap.size w w' := by
  obtain ⟨fa, fc, rfl, _⟩ := id hF
  obtain ⟨ao, ca, rfl, _⟩ := hL.row
  have HF : Aside (Row encP 2 w (.slice fa fr.length fc) fr) := hF
  have HA : Aside (ActR10 w (.slice ao l.length ca) l) := hL
  have TT : Hid (Tabs w.heap.size w) := tabs_of TB
  have CW : Hid _ := works_any w
  clear hF hL hs hp TB
  by_cases h30 : (24 : Int) < sectors
  · go_enter Tryz.func3, Tryz.ntmps3
    go_wp2_with fail
    refine Calls.mono CW.out ?_
    rintro e w1 ⟨rfl, b1⟩
    have B1 : Hid (Below w.heap.size w w1) := b1
    clear b1 CW
    go_wp2
    go_ret
    exact ⟨rfl, B1.out⟩
  by_cases h31 : (100 : Int) < fr.length
  · go_enter Tryz.func3, Tryz.ntmps3
    go_wp2_with fail
    refine Calls.mono CW.out ?_
    rintro e w1 ⟨rfl, b1⟩
    have B1 : Hid (Below w.heap.size w w1) := b1
    clear b1 CW
    go_wp2
    go_ret
    exact ⟨rfl, B1.out⟩
  by_cases h32 : (100 : Int) < l.length
  · go_enter Tryz.func3, Tryz.ntmps3
    go_wp2_with fail
    refine Calls.mono CW.out ?_
    rintro e w1 ⟨rfl, b1⟩
    have B1 : Hid (Below w.heap.size w w1) := b1
    clear b1 CW
    go_wp2
    go_ret
    exact ⟨rfl, B1.out⟩
  have hf100 : fr.length ≤ 100 := by omega
  have hd100 : l.length ≤ 100 := by omega
  go_enter Tryz.func3, Tryz.ntmps3
  go_wp2_with fail
  refine Calls.mono CW.out ?_
  rintro e w1 ⟨rfl, b1⟩
  have S1 : Hid (Sep w.heap.size w w1 []) := Sep.nil b1.size b1
  clear b1 CW
  have CD : Hid _ := new_s sectors S1.out
  go_wp2_with fail
  refine Calls.mono CD.out ?_
  rintro e w2 ⟨b, rfl, s2⟩
  have CQ : Hid _ := new_rs sectors s2
  have HOK : Hid (Dk.Ok (Dk.new sectors)) := s2.ok
  have HPN : Hid ((Dk.new sectors).pend.length = 0) := rfl
  generalize Dk.new sectors = d0 at *
  clear CD S1 s2
  go_wp2_with fail
  refine Calls.mono CQ.out ?_
  rintro e w3 ⟨c, rfl, s3⟩
  have CF : Hid _ := new_f s3.up1
  clear CQ s3
  go_wp2_with fail
  refine Calls.mono CF.out ?_
  rintro e w4 ⟨f, rfl, s4⟩
  obtain ⟨Rm, hRm⟩ : ∃ z, d0.room = z := ⟨_, rfl⟩
  have hrm : Rm ≤ 16384 := by rw [← hRm]; exact room_le HOK.out
  have hr2 : 2 ≤ Rm := by rw [← hRm]; exact room_ge d0
  have CT := tnew s4 (by rw [hRm]; exact hrm) (HF.out.below s4.bel) (by omega) pages
  rw [hRm] at CT
  have CT2 : Hid _ := CT
  clear CF s4 CT
  go_wp2_with fail
  refine Calls.mono CT2.out ?_
  rintro e w5 ⟨t, rfl, s5⟩
  have s6 := (s5.addBlk (rfileO c)).up3.join
  have CN := rnew s6 (by rw [hRm]; exact hrm) (fun u hu => HF.out.below hu) (by omega) pages
  rw [hRm] at CN
  have CN2 : Hid _ := CN
  have I0 : Hid (Inv Rm 0 (TX.new fr pages Rm) (newR fr (pagesOf pages Rm)) d0) := ⟨TX.new_ok fr pages hr2, Rel.new fr pages hr2 hrm, Nat.le_refl _, by rw [HPN.out]; omega, (fun k c hk => by cases hk), hRm⟩
  generalize TX.new fr pages Rm = x0 at *
  generalize newR fr (pagesOf pages Rm) = y0 at *
  unfold rfileO at CN2
  clear CT2 s5 s6 CN
  generalize hg5 : w5.heap.size = g at *
  go_wp2_with fail
  refine Calls.mono CN2.out ?_
  rintro e w6 ⟨r, rfl, s7⟩
  have S7 : Hid (Sep w.heap.size w w6 (Tx t f x0 :: File f b d0 :: RTx r g y0 :: RFile g c d0 :: [])) := s7.up2.up3.up1
  clear CN2 s7 HOK HPN hg5 hRm
  go_wp2
  go_loopg [14] l.length (fun kx s14 wr => ∃ (i : Nat) (x : TX) (y : RX) (d : Dk), s14 = .int .i64 i ∧ i ≤ l.length ∧ l.length - i ≤ kx ∧ Hid (Sep w.heap.size w wr (Tx t f x :: File f b d :: RTx r g y :: RFile g c d :: [])) ∧ Hid (Inv Rm i x y d))
  case atStart => exact ⟨0, x0, y0, d0, rfl, Nat.zero_le _, Nat.le_refl _, S7, I0⟩
  case round =>
    obtain ⟨i, x, y, d, rfl, hi, hki, SR, IR⟩ := hrel
    clear S7 I0
    by_cases hil : i < l.length
    · have hilz : (i : Int) < (l.length : Int) := by omega
      obtain ⟨r9, o9, rfl, hr, x0c, x1c, x2c, x3c, hsz, hwf⟩ := HA.out.at SR.out.bel (Nat.le_refl _) hil
      obtain ⟨AA, hA⟩ : ∃ A, l.getD i a10 = A := ⟨_, rfl⟩
      rw [hA] at x0c x1c x2c x3c hsz hwf
      clear hA
      obtain ⟨ak, ai, akd, sa⟩ := AA
      dsimp only at x0c x1c x2c x3c hsz hwf
      have WI : Hid (Wf ai) := hwf
      have SZ : Hid (sa.size ≤ maxLen) := hsz
      have S1 : Hid (Sep w.heap.size w (wr.alloc (.cells #[.int .i64 ak, .int .i64 ai, .int .u8 (akd.toNat : Int), .string sa] 40)) (Tx t f x :: File f b d :: RTx r g y :: RFile g c d :: Blk wr.heap.size (.cells #[.int .i64 ak, .int .i64 ai, .int .u8 (akd.toNat : Int), .string sa] 40) :: [])) := (SR.out.addBlk _).dn4
      unfold maxLen at hsz
      by_cases hs3 : 300 < sa.size
      · have hsz3 : (300 : Int) < (sa.size : Int) := by omega
        have BS : Hid (Below w.heap.size w (wr.alloc (.cells #[.int .i64 ak, .int .i64 ai, .int .u8 (akd.toNat : Int), .string sa] 40))) := S1.out.bel
        clear SR S1
        go_wp2
        go_ret
        exact ⟨rfl, BS.out⟩
      have hsz3 : ¬ (300 : Int) < (sa.size : Int) := by omega
      clear hr SR hwf
      go_upto_region 16 with fail
      generalize wr.alloc (.cells #[.int .i64 ak, .int .i64 ai, .int .u8 (akd.toNat : Int), .string sa] 40) = wa at *
      generalize wr.heap.size = q at *
      obtain ⟨a0c, a1c, a2c, a3c, ltq⟩ := act10_cells S1.out.up4.blk
      clear x0c x1c x2c x3c
      have hcn := IR.out.cn
      have hpn := IR.out.pn
      have hxp := IR.out.ok.pr
      have hx2 := IR.out.ok.p2
      have hxl := IR.out.ok.len
      by_cases hk0 : Int.tmod ak 6 = 0
      · as_aux_lemma =>
          have CA := talloc S1.out (by rw [IR.out.rm]; exact IR.out.ok) (by rw [IR.out.rm]; exact hrm) (by omega)
          rw [IR.out.rm] at CA
          have CA2 : Hid _ := CA
          have CB : Hid (∀ u, Sep w.heap.size w u (Tx t f (x.alloc Rm).2 :: File f b d :: RTx r g y :: RFile g c d :: Blk q (.cells #[.int .i64 ak, .int .i64 ai, .int .u8 (akd.toNat : Int), .string sa] 40) :: []) → _) := fun u hu => ralloc hu.up3.up3 IR.out.rel (by rw [IR.out.rm]; exact IR.out.ok) (by rw [IR.out.rm]; exact hrm)
          rw [IR.out.rm] at CB
          have IA : Hid (∀ y', Rel (x.alloc Rm).2 y' → Inv Rm (i + 1) (x.alloc Rm).2 y' d) := fun y' h => IR.out.alloc h
          obtain ⟨⟨⟨pid, er⟩, x2⟩, hAR⟩ : ∃ z, x.alloc Rm = z := ⟨_, rfl⟩
          rw [hAR] at CA2 CB IA
          simp only at CA2 CB IA
          clear CA hAR S1
          go_wp2_with fail
          refine Calls.mono CA2.out ?_
          rintro e w7 ⟨rfl, s7⟩
          have C8 : Hid _ := CB.out w7 s7
          clear CA2 CB s7 a0c a1c a2c a3c ltq
          go_wp2_with fail
          refine Calls.mono C8.out ?_
          rintro e w8 ⟨rfl, y2, hy2, s8⟩
          have IN : Hid (Inv Rm (i + 1) x2 y2 d) := IA.out _ hy2
          obtain ⟨d2, hd2⟩ : ∃ z, z = d := ⟨_, rfl⟩
          subst hd2
          have SN : Hid (Sep w.heap.size w w8 (Tx t f x2 :: File f b d2 :: RTx r g y2 :: RFile g c d2 :: Blk q (.cells #[.int .i64 ak, .int .i64 ai, .int .u8 (akd.toNat : Int), .string sa] 40) :: [])) := s8.up3.up3
          clear C8 s8 hy2 IA
          have IOK := IN.out.ok
          have hpr2 := IOK.pr
          have hp22 := IOK.p2
          have hln2 := IOK.len
          have CFr : Hid _ := tfree SN.out IOK.cn (by omega)
          go_wp2_with fail
          refine Calls.mono CFr.out ?_
          rintro e wa1 ⟨a1, n1, c1, rfl, r1, b1⟩
          have s1 : Sep w.heap.size w wa1 (Tx t f x2 :: File f b d2 :: RTx r g y2 :: RFile g c d2 :: Blk q (.cells #[.int .i64 ak, .int .i64 ai, .int .u8 (akd.toNat : Int), .string sa] 40) :: []) := SN.out.below b1
          have CRn : Hid _ := rruns s1.up2 IN.out.rel IOK hrm
          have R1 : Aside (Row encP 2 wa1 (.slice a1 n1 c1) x2.free) := r1.row
          have S1' : Hid (Sep w.heap.size w wa1 (Tx t f x2 :: File f b d2 :: RTx r g y2 :: RFile g c d2 :: Blk q (.cells #[.int .i64 ak, .int .i64 ai, .int .u8 (akd.toNat : Int), .string sa] 40) :: [])) := s1
          clear CFr r1 b1 s1 SN
          go_wp2_with fail
          refine Calls.mono CRn.out ?_
          rintro e wa2 ⟨v2', rfl, r2, b2⟩
          obtain ⟨a2, c2, rfl, _⟩ := id r2
          have s2 : Sep w.heap.size w wa2 (Tx t f x2 :: File f b d2 :: RTx r g y2 :: RFile g c d2 :: Blk q (.cells #[.int .i64 ak, .int .i64 ai, .int .u8 (akd.toNat : Int), .string sa] 40) :: []) := S1'.out.below b2
          have CSm0 := same_any _ _ _ _ wa2 (R1.out.below b2) r2 (by omega) (by omega)
          rw [decide_eq_true (rfl : x2.free = x2.free)] at CSm0
          have CSm : Hid _ := CSm0
          have S2' : Hid (Sep w.heap.size w wa2 (Tx t f x2 :: File f b d2 :: RTx r g y2 :: RFile g c d2 :: Blk q (.cells #[.int .i64 ak, .int .i64 ai, .int .u8 (akd.toNat : Int), .string sa] 40) :: [])) := s2
          clear CRn CSm0 r2 b2 s2 R1 S1'
          go_wp2_with fail
          refine Calls.mono CSm.out ?_
          rintro e wa3 ⟨rfl, b3⟩
          have S3 : Hid (Sep w.heap.size w wa3 (Tx t f x2 :: File f b d2 :: RTx r g y2 :: RFile g c d2 :: Blk q (.cells #[.int .i64 ak, .int .i64 ai, .int .u8 (akd.toNat : Int), .string sa] 40) :: [])) := S2'.out.below b3
          clear CSm b3 S2'
          obtain ⟨g1, g2, g3, g4, g5, h0⟩ := S3.out.up2.rtxOpen
          obtain ⟨qa, qc, e1, hqa, _, _⟩ := brow_at (n := 0) h0.up1 (by have := IN.out.rel.len.l1; omega)
          subst e1
          rw [IN.out.rel.len.l1] at h0
          obtain ⟨hr0, z0, z1, _, _, _, _, _⟩ := rtx_cells h0
          obtain ⟨_, y1, _, _, lq⟩ := act10_cells S3.out.up4.blk
          obtain ⟨wo, wc, z2, lc2⟩ := S3.out.up3.rwait
          have KS : Hid (∀ u, Below wa3.heap.size wa3 u → u.cell? ⟨r, 1, none⟩ = some (.slice (some ⟨qa, 0, none⟩) x2.pages qc) ∧ u.cell? ⟨q, 1, none⟩ = some (.int .i64 ai) ∧ u.cell? ⟨c, 1, none⟩ = some (.slice wo d2.pend.length wc)) := fun u hu => ⟨(hu.cell (p := ⟨r, 1, none⟩) hr0).trans z1, (hu.cell (p := ⟨q, 1, none⟩) lq).trans y1, (hu.cell (p := ⟨c, 1, none⟩) lc2).trans z2⟩
          have CPg : Hid (∀ u, Below wa3.heap.size wa3 u → Calls Tryz.prog 26 #[ptr t] u fun e w' => e = .returned (.int .i64 (x2.pages : Int)) ∧ u = w') := fun u hu => tpages (S3.out.below hu) hp22
          have CFs : Hid (∀ u, Below wa3.heap.size wa3 u → Calls Tryz.prog 27 #[ptr t, .int .i64 ai] u fun e w' => e = .returned (.bool (x2.fresh ai).isSome) ∧ Below u.heap.size u w') := fun u hu => tfresh (S3.out.below hu) WI.out
          have CIs : Hid (∀ u, Below wa3.heap.size wa3 u → Calls Tryz.prog 28 #[ptr r, .int .i64 ai] u fun e w' => e = .returned (.bool (x2.fresh ai).isSome) ∧ Below u.heap.size u w') := fun u hu => by
            have := ris (S3.out.below hu).up2 ai
            rw [IN.out.rel.is IOK] at this
            exact this
          have CPn : Hid (∀ u, Below wa3.heap.size wa3 u → Calls Tryz.prog 29 #[ptr b] u fun e w' => e = .returned (.int .i64 (d2.pend.length : Int)) ∧ u = w') := fun u hu => pending_s (S3.out.below hu).up1.part
          have BX : Hid (Below wa3.heap.size wa3 wa3.drew) := (Below.refl _ _).drew
          have k9 := KS.out _ BX.out
          generalize (x2.fresh ai).isSome = isb at *
          have hbb : (isb != isb) = false := by cases isb <;> rfl
          clear h0 hr0 z0 z1 y1 lq z2 lc2 hqa
          generalize x2.pages = P2 at *
          generalize d2.pend.length = PL at *
          go_wp2_with fail
          first | go_region_held3 (fun w' => w'.cell? ⟨r, 1, none⟩ = some (.slice (some ⟨qa, 0, none⟩) P2 qc) ∧ w'.cell? ⟨q, 1, none⟩ = some (.int .i64 ai) ∧ w'.cell? ⟨c, 1, none⟩ = some (.slice wo PL wc)) (first | assumption | exact k9) ((first | (go_at_call 26; refine Calls.mono (CPg.out _ BX.out) ?_; rintro e w4 ⟨rfl, rfl⟩) | (go_at_call 27; refine Calls.mono (CFs.out _ BX.out) ?_; rintro e w4 ⟨rfl, b4⟩; have BY : Hid (Below wa3.heap.size wa3 w4) := BX.out.trans (b4.mono BX.out.size); have hS := KS.out _ BY.out; clear BX b4; have BX := BY; clear BY) | (go_at_call 28; refine Calls.mono (CIs.out _ BX.out) ?_; rintro e w4 ⟨rfl, b4⟩; have BY : Hid (Below wa3.heap.size wa3 w4) := BX.out.trans (b4.mono BX.out.size); have hS := KS.out _ BY.out; clear BX b4; have BX := BY; clear BY) | (go_at_call 29; refine Calls.mono (CPn.out _ BX.out) ?_; rintro e w4 ⟨rfl, rfl⟩))) | fail
          all_goals
            have S5 : Hid (Sep w.heap.size w _ (Tx t f x2 :: File f b d2 :: RTx r g y2 :: RFile g c d2 :: [])) := (S3.out.below BX.out).up4.drop
            clear CPg CFs CIs CPn KS k9
            go_wp2
            go_roundg (l.length - (i + 1))
            case measure => omega
            case rel => exact ⟨i + 1, x2, y2, d2, by go_num, by omega, Nat.le_refl _, S5, IN⟩
      have nk0 : (Int.tmod ak 6 == 0) = false := beq_eq_false_iff_ne.2 hk0
      clear hk0
      by_cases hk1 : Int.tmod ak 6 = 1
      · as_aux_lemma =>
          have CA : Hid _ := tdrop S1.out WI.out (by omega)
          have CB : Hid (∀ u, Sep w.heap.size w u (Tx t f (x.drop ai) :: File f b d :: RTx r g y :: RFile g c d :: Blk q (.cells #[.int .i64 ak, .int .i64 ai, .int .u8 (akd.toNat : Int), .string sa] 40) :: []) → _) := fun u hu => rdrop hu.up2 IR.out.rel IR.out.ok hrm ai
          have IA : Hid (∀ y', Rel (x.drop ai) y' → Inv Rm (i + 1) (x.drop ai) y' d) := fun y' h => IR.out.drop ai h
          obtain ⟨x2, hAR⟩ : ∃ z, x.drop ai = z := ⟨_, rfl⟩
          rw [hAR] at CA CB IA
          clear hAR S1
          go_wp2_with fail
          refine Calls.mono CA.out ?_
          rintro e w7 ⟨rfl, s7⟩
          have C8 : Hid _ := CB.out w7 s7
          obtain ⟨_, p1, _, _, _⟩ := act10_cells s7.up4.blk
          clear CA CB s7 a0c a1c a2c a3c ltq
          go_wp2_with fail
          refine Calls.mono C8.out ?_
          rintro e w8 ⟨rfl, y2, hy2, s8⟩
          have IN : Hid (Inv Rm (i + 1) x2 y2 d) := IA.out _ hy2
          obtain ⟨d2, hd2⟩ : ∃ z, z = d := ⟨_, rfl⟩
          subst hd2
          have SN : Hid (Sep w.heap.size w w8 (Tx t f x2 :: File f b d2 :: RTx r g y2 :: RFile g c d2 :: Blk q (.cells #[.int .i64 ak, .int .i64 ai, .int .u8 (akd.toNat : Int), .string sa] 40) :: [])) := s8.dn2
          clear C8 s8 hy2 IA p1
          have IOK := IN.out.ok
          have hpr2 := IOK.pr
          have hp22 := IOK.p2
          have hln2 := IOK.len
          have CFr : Hid _ := tfree SN.out IOK.cn (by omega)
          go_wp2_with fail
          refine Calls.mono CFr.out ?_
          rintro e wa1 ⟨a1, n1, c1, rfl, r1, b1⟩
          have s1 : Sep w.heap.size w wa1 (Tx t f x2 :: File f b d2 :: RTx r g y2 :: RFile g c d2 :: Blk q (.cells #[.int .i64 ak, .int .i64 ai, .int .u8 (akd.toNat : Int), .string sa] 40) :: []) := SN.out.below b1
          have CRn : Hid _ := rruns s1.up2 IN.out.rel IOK hrm
          have R1 : Aside (Row encP 2 wa1 (.slice a1 n1 c1) x2.free) := r1.row
          have S1' : Hid (Sep w.heap.size w wa1 (Tx t f x2 :: File f b d2 :: RTx r g y2 :: RFile g c d2 :: Blk q (.cells #[.int .i64 ak, .int .i64 ai, .int .u8 (akd.toNat : Int), .string sa] 40) :: [])) := s1
          clear CFr r1 b1 s1 SN
          go_wp2_with fail
          refine Calls.mono CRn.out ?_
          rintro e wa2 ⟨v2', rfl, r2, b2⟩
          obtain ⟨a2, c2, rfl, _⟩ := id r2
          have s2 : Sep w.heap.size w wa2 (Tx t f x2 :: File f b d2 :: RTx r g y2 :: RFile g c d2 :: Blk q (.cells #[.int .i64 ak, .int .i64 ai, .int .u8 (akd.toNat : Int), .string sa] 40) :: []) := S1'.out.below b2
          have CSm0 := same_any _ _ _ _ wa2 (R1.out.below b2) r2 (by omega) (by omega)
          rw [decide_eq_true (rfl : x2.free = x2.free)] at CSm0
          have CSm : Hid _ := CSm0
          have S2' : Hid (Sep w.heap.size w wa2 (Tx t f x2 :: File f b d2 :: RTx r g y2 :: RFile g c d2 :: Blk q (.cells #[.int .i64 ak, .int .i64 ai, .int .u8 (akd.toNat : Int), .string sa] 40) :: [])) := s2
          clear CRn CSm0 r2 b2 s2 R1 S1'
          go_wp2_with fail
          refine Calls.mono CSm.out ?_
          rintro e wa3 ⟨rfl, b3⟩
          have S3 : Hid (Sep w.heap.size w wa3 (Tx t f x2 :: File f b d2 :: RTx r g y2 :: RFile g c d2 :: Blk q (.cells #[.int .i64 ak, .int .i64 ai, .int .u8 (akd.toNat : Int), .string sa] 40) :: [])) := S2'.out.below b3
          clear CSm b3 S2'
          obtain ⟨g1, g2, g3, g4, g5, h0⟩ := S3.out.up2.rtxOpen
          obtain ⟨qa, qc, e1, hqa, _, _⟩ := brow_at (n := 0) h0.up1 (by have := IN.out.rel.len.l1; omega)
          subst e1
          rw [IN.out.rel.len.l1] at h0
          obtain ⟨hr0, z0, z1, _, _, _, _, _⟩ := rtx_cells h0
          obtain ⟨_, y1, _, _, lq⟩ := act10_cells S3.out.up4.blk
          obtain ⟨wo, wc, z2, lc2⟩ := S3.out.up3.rwait
          have KS : Hid (∀ u, Below wa3.heap.size wa3 u → u.cell? ⟨r, 1, none⟩ = some (.slice (some ⟨qa, 0, none⟩) x2.pages qc) ∧ u.cell? ⟨q, 1, none⟩ = some (.int .i64 ai) ∧ u.cell? ⟨c, 1, none⟩ = some (.slice wo d2.pend.length wc)) := fun u hu => ⟨(hu.cell (p := ⟨r, 1, none⟩) hr0).trans z1, (hu.cell (p := ⟨q, 1, none⟩) lq).trans y1, (hu.cell (p := ⟨c, 1, none⟩) lc2).trans z2⟩
          have CPg : Hid (∀ u, Below wa3.heap.size wa3 u → Calls Tryz.prog 26 #[ptr t] u fun e w' => e = .returned (.int .i64 (x2.pages : Int)) ∧ u = w') := fun u hu => tpages (S3.out.below hu) hp22
          have CFs : Hid (∀ u, Below wa3.heap.size wa3 u → Calls Tryz.prog 27 #[ptr t, .int .i64 ai] u fun e w' => e = .returned (.bool (x2.fresh ai).isSome) ∧ Below u.heap.size u w') := fun u hu => tfresh (S3.out.below hu) WI.out
          have CIs : Hid (∀ u, Below wa3.heap.size wa3 u → Calls Tryz.prog 28 #[ptr r, .int .i64 ai] u fun e w' => e = .returned (.bool (x2.fresh ai).isSome) ∧ Below u.heap.size u w') := fun u hu => by
            have := ris (S3.out.below hu).up2 ai
            rw [IN.out.rel.is IOK] at this
            exact this
          have CPn : Hid (∀ u, Below wa3.heap.size wa3 u → Calls Tryz.prog 29 #[ptr b] u fun e w' => e = .returned (.int .i64 (d2.pend.length : Int)) ∧ u = w') := fun u hu => pending_s (S3.out.below hu).up1.part
          have BX : Hid (Below wa3.heap.size wa3 wa3.drew) := (Below.refl _ _).drew
          have k9 := KS.out _ BX.out
          generalize (x2.fresh ai).isSome = isb at *
          have hbb : (isb != isb) = false := by cases isb <;> rfl
          clear h0 hr0 z0 z1 y1 lq z2 lc2 hqa
          generalize x2.pages = P2 at *
          generalize d2.pend.length = PL at *
          go_wp2_with fail
          first | go_region_held3 (fun w' => w'.cell? ⟨r, 1, none⟩ = some (.slice (some ⟨qa, 0, none⟩) P2 qc) ∧ w'.cell? ⟨q, 1, none⟩ = some (.int .i64 ai) ∧ w'.cell? ⟨c, 1, none⟩ = some (.slice wo PL wc)) (first | assumption | exact k9) ((first | (go_at_call 26; refine Calls.mono (CPg.out _ BX.out) ?_; rintro e w4 ⟨rfl, rfl⟩) | (go_at_call 27; refine Calls.mono (CFs.out _ BX.out) ?_; rintro e w4 ⟨rfl, b4⟩; have BY : Hid (Below wa3.heap.size wa3 w4) := BX.out.trans (b4.mono BX.out.size); have hS := KS.out _ BY.out; clear BX b4; have BX := BY; clear BY) | (go_at_call 28; refine Calls.mono (CIs.out _ BX.out) ?_; rintro e w4 ⟨rfl, b4⟩; have BY : Hid (Below wa3.heap.size wa3 w4) := BX.out.trans (b4.mono BX.out.size); have hS := KS.out _ BY.out; clear BX b4; have BX := BY; clear BY) | (go_at_call 29; refine Calls.mono (CPn.out _ BX.out) ?_; rintro e w4 ⟨rfl, rfl⟩))) | fail
          all_goals
            have S5 : Hid (Sep w.heap.size w _ (Tx t f x2 :: File f b d2 :: RTx r g y2 :: RFile g c d2 :: [])) := (S3.out.below BX.out).up4.drop
            clear CPg CFs CIs CPn KS k9
            go_wp2
            go_roundg (l.length - (i + 1))
            case measure => omega
            case rel => exact ⟨i + 1, x2, y2, d2, by go_num, by omega, Nat.le_refl _, S5, IN⟩
      have nk1 : (Int.tmod ak 6 == 1) = false := beq_eq_false_iff_ne.2 hk1
      clear hk1
      by_cases hk2 : Int.tmod ak 6 = 2
      · as_aux_lemma =>
          have HAC : Hid (∀ u dx xx yy, Sep w.heap.size w u (Tx t f xx :: File f b dx :: RTx r g yy :: RFile g c dx :: Blk q (.cells #[.int .i64 ak, .int .i64 ai, .int .u8 (akd.toNat : Int), .string sa] 40) :: []) → u.cell? ⟨q, 1, none⟩ = some (.int .i64 ai) ∧ u.cell? ⟨q, 2, none⟩ = some (.int .u8 (akd.toNat : Int)) ∧ u.cell? ⟨q, 3, none⟩ = some (.string sa)) := fun u dx xx yy hu => by
            obtain ⟨_, p1, p2, p3, _⟩ := act10_cells hu.up4.blk
            exact ⟨p1, p2, p3⟩
          have SD : Hid (Sep w.heap.size w wa.drew (Tx t f x :: File f b d :: RTx r g y :: RFile g c d :: Blk q (.cells #[.int .i64 ak, .int .i64 ai, .int .u8 (akd.toNat : Int), .string sa] 40) :: [])) := S1.out.drew
          have CA : Hid _ := tput SD.out WI.out akd sa SZ.out (by omega)
          have CB : Hid (∀ u, Sep w.heap.size w u (Tx t f (x.put ai akd sa).2 :: File f b d :: RTx r g y :: RFile g c d :: Blk q (.cells #[.int .i64 ak, .int .i64 ai, .int .u8 (akd.toNat : Int), .string sa] 40) :: []) → _) := fun u hu => rput2 hu.up2 IR.out.rel IR.out.ok hrm ai akd sa SZ.out
          have IA : Hid (∀ y', Rel (x.put ai akd sa).2 y' → Inv Rm (i + 1) (x.put ai akd sa).2 y' d) := fun y' h => IR.out.put ai akd sa h
          obtain ⟨⟨er, x2⟩, hAR⟩ : ∃ z, x.put ai akd sa = z := ⟨_, rfl⟩
          rw [hAR] at CA CB IA
          simp only at CA CB IA
          have k8 := HAC.out _ _ _ _ SD.out
          have hbe : (er != er) = false := by simp
          clear hAR S1 a1c a2c a3c ltq
          go_wp2_with fail
          first | go_region_held3 (fun w' => w'.cell? ⟨q, 1, none⟩ = some (.int .i64 ai) ∧ w'.cell? ⟨q, 2, none⟩ = some (.int .u8 (akd.toNat : Int)) ∧ w'.cell? ⟨q, 3, none⟩ = some (.string sa)) (first | assumption | exact k8) ((first | (go_at_call 15; have hgd := SD; clear hgd; refine Calls.mono CA.out ?_; rintro e w7 ⟨rfl, s7⟩; have hS7 := HAC.out _ _ _ _ s7; have C8 : Hid _ := CB.out w7 s7; clear s7 SD) | (go_at_call 16; refine Calls.mono C8.out ?_; rintro e w8 ⟨rfl, y2, hy2, s8⟩; have S8 : Hid (Sep w.heap.size w w8 (Tx t f x2 :: File f b d :: RTx r g y2 :: RFile g c d :: Blk q (.cells #[.int .i64 ak, .int .i64 ai, .int .u8 (akd.toNat : Int), .string sa] 40) :: [])) := s8.dn2; have hS8 := HAC.out _ _ _ _ S8.out; have IN : Hid (Inv Rm (i + 1) x2 y2 d) := IA.out _ hy2; clear s8 hy2 C8))) | fail
          obtain ⟨d2, hd2⟩ : ∃ z, z = d := ⟨_, rfl⟩
          subst hd2
          have SN : Hid (Sep w.heap.size w w8 (Tx t f x2 :: File f b d2 :: RTx r g y2 :: RFile g c d2 :: Blk q (.cells #[.int .i64 ak, .int .i64 ai, .int .u8 (akd.toNat : Int), .string sa] 40) :: [])) := S8
          clear CA CB IA S8 k8 HAC hbe a0c
          have IOK := IN.out.ok
          have hpr2 := IOK.pr
          have hp22 := IOK.p2
          have hln2 := IOK.len
          have CFr : Hid _ := tfree SN.out IOK.cn (by omega)
          go_wp2_with fail
          refine Calls.mono CFr.out ?_
          rintro e wa1 ⟨a1, n1, c1, rfl, r1, b1⟩
          have s1 : Sep w.heap.size w wa1 (Tx t f x2 :: File f b d2 :: RTx r g y2 :: RFile g c d2 :: Blk q (.cells #[.int .i64 ak, .int .i64 ai, .int .u8 (akd.toNat : Int), .string sa] 40) :: []) := SN.out.below b1
          have CRn : Hid _ := rruns s1.up2 IN.out.rel IOK hrm
          have R1 : Aside (Row encP 2 wa1 (.slice a1 n1 c1) x2.free) := r1.row
          have S1' : Hid (Sep w.heap.size w wa1 (Tx t f x2 :: File f b d2 :: RTx r g y2 :: RFile g c d2 :: Blk q (.cells #[.int .i64 ak, .int .i64 ai, .int .u8 (akd.toNat : Int), .string sa] 40) :: [])) := s1
          clear CFr r1 b1 s1 SN
          go_wp2_with fail
          refine Calls.mono CRn.out ?_
          rintro e wa2 ⟨v2', rfl, r2, b2⟩
          obtain ⟨a2, c2, rfl, _⟩ := id r2
          have s2 : Sep w.heap.size w wa2 (Tx t f x2 :: File f b d2 :: RTx r g y2 :: RFile g c d2 :: Blk q (.cells #[.int .i64 ak, .int .i64 ai, .int .u8 (akd.toNat : Int), .string sa] 40) :: []) := S1'.out.below b2
          have CSm0 := same_any _ _ _ _ wa2 (R1.out.below b2) r2 (by omega) (by omega)
          rw [decide_eq_true (rfl : x2.free = x2.free)] at CSm0
          have CSm : Hid _ := CSm0
          have S2' : Hid (Sep w.heap.size w wa2 (Tx t f x2 :: File f b d2 :: RTx r g y2 :: RFile g c d2 :: Blk q (.cells #[.int .i64 ak, .int .i64 ai, .int .u8 (akd.toNat : Int), .string sa] 40) :: [])) := s2
          clear CRn CSm0 r2 b2 s2 R1 S1'
          go_wp2_with fail
          refine Calls.mono CSm.out ?_
          rintro e wa3 ⟨rfl, b3⟩
          have S3 : Hid (Sep w.heap.size w wa3 (Tx t f x2 :: File f b d2 :: RTx r g y2 :: RFile g c d2 :: Blk q (.cells #[.int .i64 ak, .int .i64 ai, .int .u8 (akd.toNat : Int), .string sa] 40) :: [])) := S2'.out.below b3
          clear CSm b3 S2'
          obtain ⟨g1, g2, g3, g4, g5, h0⟩ := S3.out.up2.rtxOpen
          obtain ⟨qa, qc, e1, hqa, _, _⟩ := brow_at (n := 0) h0.up1 (by have := IN.out.rel.len.l1; omega)
          subst e1
          rw [IN.out.rel.len.l1] at h0
          obtain ⟨hr0, z0, z1, _, _, _, _, _⟩ := rtx_cells h0
          obtain ⟨_, y1, _, _, lq⟩ := act10_cells S3.out.up4.blk
          obtain ⟨wo, wc, z2, lc2⟩ := S3.out.up3.rwait
          have KS : Hid (∀ u, Below wa3.heap.size wa3 u → u.cell? ⟨r, 1, none⟩ = some (.slice (some ⟨qa, 0, none⟩) x2.pages qc) ∧ u.cell? ⟨q, 1, none⟩ = some (.int .i64 ai) ∧ u.cell? ⟨c, 1, none⟩ = some (.slice wo d2.pend.length wc)) := fun u hu => ⟨(hu.cell (p := ⟨r, 1, none⟩) hr0).trans z1, (hu.cell (p := ⟨q, 1, none⟩) lq).trans y1, (hu.cell (p := ⟨c, 1, none⟩) lc2).trans z2⟩
          have CPg : Hid (∀ u, Below wa3.heap.size wa3 u → Calls Tryz.prog 26 #[ptr t] u fun e w' => e = .returned (.int .i64 (x2.pages : Int)) ∧ u = w') := fun u hu => tpages (S3.out.below hu) hp22
          have CFs : Hid (∀ u, Below wa3.heap.size wa3 u → Calls Tryz.prog 27 #[ptr t, .int .i64 ai] u fun e w' => e = .returned (.bool (x2.fresh ai).isSome) ∧ Below u.heap.size u w') := fun u hu => tfresh (S3.out.below hu) WI.out
          have CIs : Hid (∀ u, Below wa3.heap.size wa3 u → Calls Tryz.prog 28 #[ptr r, .int .i64 ai] u fun e w' => e = .returned (.bool (x2.fresh ai).isSome) ∧ Below u.heap.size u w') := fun u hu => by
            have := ris (S3.out.below hu).up2 ai
            rw [IN.out.rel.is IOK] at this
            exact this
          have CPn : Hid (∀ u, Below wa3.heap.size wa3 u → Calls Tryz.prog 29 #[ptr b] u fun e w' => e = .returned (.int .i64 (d2.pend.length : Int)) ∧ u = w') := fun u hu => pending_s (S3.out.below hu).up1.part
          have BX : Hid (Below wa3.heap.size wa3 wa3.drew) := (Below.refl _ _).drew
          have k9 := KS.out _ BX.out
          generalize (x2.fresh ai).isSome = isb at *
          have hbb : (isb != isb) = false := by cases isb <;> rfl
          clear h0 hr0 z0 z1 y1 lq z2 lc2 hqa
          generalize x2.pages = P2 at *
          generalize d2.pend.length = PL at *
          go_wp2_with fail
          first | go_region_held3 (fun w' => w'.cell? ⟨r, 1, none⟩ = some (.slice (some ⟨qa, 0, none⟩) P2 qc) ∧ w'.cell? ⟨q, 1, none⟩ = some (.int .i64 ai) ∧ w'.cell? ⟨c, 1, none⟩ = some (.slice wo PL wc)) (first | assumption | exact k9) ((first | (go_at_call 26; refine Calls.mono (CPg.out _ BX.out) ?_; rintro e w4 ⟨rfl, rfl⟩) | (go_at_call 27; refine Calls.mono (CFs.out _ BX.out) ?_; rintro e w4 ⟨rfl, b4⟩; have BY : Hid (Below wa3.heap.size wa3 w4) := BX.out.trans (b4.mono BX.out.size); have hS := KS.out _ BY.out; clear BX b4; have BX := BY; clear BY) | (go_at_call 28; refine Calls.mono (CIs.out _ BX.out) ?_; rintro e w4 ⟨rfl, b4⟩; have BY : Hid (Below wa3.heap.size wa3 w4) := BX.out.trans (b4.mono BX.out.size); have hS := KS.out _ BY.out; clear BX b4; have BX := BY; clear BY) | (go_at_call 29; refine Calls.mono (CPn.out _ BX.out) ?_; rintro e w4 ⟨rfl, rfl⟩))) | fail
          all_goals
            have S5 : Hid (Sep w.heap.size w _ (Tx t f x2 :: File f b d2 :: RTx r g y2 :: RFile g c d2 :: [])) := (S3.out.below BX.out).up4.drop
            clear CPg CFs CIs CPn KS k9
            go_wp2
            go_roundg (l.length - (i + 1))
            case measure => omega
            case rel => exact ⟨i + 1, x2, y2, d2, by go_num, by omega, Nat.le_refl _, S5, IN⟩
      have nk2 : (Int.tmod ak 6 == 2) = false := beq_eq_false_iff_ne.2 hk2
      clear hk2
      by_cases hk3 : Int.tmod ak 6 = 3
      · as_aux_lemma =>
          have CA : Hid _ := tget TT.out S1.out WI.out akd hx2 (by omega)
          have CB : Hid (∀ u, Sep w.heap.size w u (Tx t f x :: File f b (x.get d ai akd).2 :: RTx r g y :: RFile g c d :: Blk q (.cells #[.int .i64 ak, .int .i64 ai, .int .u8 (akd.toNat : Int), .string sa] 40) :: []) → _) := fun u hu => rget hu.up3.up3 IR.out.rel (by rw [IR.out.rm]; exact IR.out.ok) (by rw [IR.out.rm]; exact hrm) (by omega) WI.out akd
          have IN0 := IR.out.get ai akd
          obtain ⟨⟨⟨gs, ge⟩, d2⟩, hAR⟩ : ∃ z, x.get d ai akd = z := ⟨_, rfl⟩
          rw [hAR] at CA CB IN0
          simp only at CA CB IN0
          obtain ⟨x2, hxx⟩ : ∃ z, z = x := ⟨_, rfl⟩
          obtain ⟨y2, hyy⟩ : ∃ z, z = y := ⟨_, rfl⟩
          subst hxx hyy
          have IN : Hid (Inv Rm (i + 1) x2 y2 d2) := IN0
          clear hAR S1 IN0
          go_wp2_with fail
          refine Calls.mono CA.out ?_
          rintro e w7 ⟨rfl, s7⟩
          have C8 : Hid _ := CB.out w7 s7
          obtain ⟨_, p1, p2, _, _⟩ := act10_cells s7.up4.blk
          clear CA CB s7 a0c a1c a2c a3c ltq
          go_wp2_with fail
          refine Calls.mono C8.out ?_
          rintro e w8 ⟨rfl, s8⟩
          have SN : Hid (Sep w.heap.size w w8 (Tx t f x2 :: File f b d2 :: RTx r g y2 :: RFile g c d2 :: Blk q (.cells #[.int .i64 ak, .int .i64 ai, .int .u8 (akd.toNat : Int), .string sa] 40) :: [])) := s8.up3.up3
          clear C8 s8 p1 p2
          have IOK := IN.out.ok
          have hpr2 := IOK.pr
          have hp22 := IOK.p2
          have hln2 := IOK.len
          have CFr : Hid _ := tfree SN.out IOK.cn (by omega)
          go_wp2_with fail
          refine Calls.mono CFr.out ?_
          rintro e wa1 ⟨a1, n1, c1, rfl, r1, b1⟩
          have s1 : Sep w.heap.size w wa1 (Tx t f x2 :: File f b d2 :: RTx r g y2 :: RFile g c d2 :: Blk q (.cells #[.int .i64 ak, .int .i64 ai, .int .u8 (akd.toNat : Int), .string sa] 40) :: []) := SN.out.below b1
          have CRn : Hid _ := rruns s1.up2 IN.out.rel IOK hrm
          have R1 : Aside (Row encP 2 wa1 (.slice a1 n1 c1) x2.free) := r1.row
          have S1' : Hid (Sep w.heap.size w wa1 (Tx t f x2 :: File f b d2 :: RTx r g y2 :: RFile g c d2 :: Blk q (.cells #[.int .i64 ak, .int .i64 ai, .int .u8 (akd.toNat : Int), .string sa] 40) :: [])) := s1
          clear CFr r1 b1 s1 SN
          go_wp2_with fail
          refine Calls.mono CRn.out ?_
          rintro e wa2 ⟨v2', rfl, r2, b2⟩
          obtain ⟨a2, c2, rfl, _⟩ := id r2
          have s2 : Sep w.heap.size w wa2 (Tx t f x2 :: File f b d2 :: RTx r g y2 :: RFile g c d2 :: Blk q (.cells #[.int .i64 ak, .int .i64 ai, .int .u8 (akd.toNat : Int), .string sa] 40) :: []) := S1'.out.below b2
          have CSm0 := same_any _ _ _ _ wa2 (R1.out.below b2) r2 (by omega) (by omega)
          rw [decide_eq_true (rfl : x2.free = x2.free)] at CSm0
          have CSm : Hid _ := CSm0
          have S2' : Hid (Sep w.heap.size w wa2 (Tx t f x2 :: File f b d2 :: RTx r g y2 :: RFile g c d2 :: Blk q (.cells #[.int .i64 ak, .int .i64 ai, .int .u8 (akd.toNat : Int), .string sa] 40) :: [])) := s2
          clear CRn CSm0 r2 b2 s2 R1 S1'
          go_wp2_with fail
          refine Calls.mono CSm.out ?_
          rintro e wa3 ⟨rfl, b3⟩
          have S3 : Hid (Sep w.heap.size w wa3 (Tx t f x2 :: File f b d2 :: RTx r g y2 :: RFile g c d2 :: Blk q (.cells #[.int .i64 ak, .int .i64 ai, .int .u8 (akd.toNat : Int), .string sa] 40) :: [])) := S2'.out.below b3
          clear CSm b3 S2'
          obtain ⟨g1, g2, g3, g4, g5, h0⟩ := S3.out.up2.rtxOpen
          obtain ⟨qa, qc, e1, hqa, _, _⟩ := brow_at (n := 0) h0.up1 (by have := IN.out.rel.len.l1; omega)
          subst e1
          rw [IN.out.rel.len.l1] at h0
          obtain ⟨hr0, z0, z1, _, _, _, _, _⟩ := rtx_cells h0
          obtain ⟨_, y1, _, _, lq⟩ := act10_cells S3.out.up4.blk
          obtain ⟨wo, wc, z2, lc2⟩ := S3.out.up3.rwait
          have KS : Hid (∀ u, Below wa3.heap.size wa3 u → u.cell? ⟨r, 1, none⟩ = some (.slice (some ⟨qa, 0, none⟩) x2.pages qc) ∧ u.cell? ⟨q, 1, none⟩ = some (.int .i64 ai) ∧ u.cell? ⟨c, 1, none⟩ = some (.slice wo d2.pend.length wc)) := fun u hu => ⟨(hu.cell (p := ⟨r, 1, none⟩) hr0).trans z1, (hu.cell (p := ⟨q, 1, none⟩) lq).trans y1, (hu.cell (p := ⟨c, 1, none⟩) lc2).trans z2⟩
          have CPg : Hid (∀ u, Below wa3.heap.size wa3 u → Calls Tryz.prog 26 #[ptr t] u fun e w' => e = .returned (.int .i64 (x2.pages : Int)) ∧ u = w') := fun u hu => tpages (S3.out.below hu) hp22
          have CFs : Hid (∀ u, Below wa3.heap.size wa3 u → Calls Tryz.prog 27 #[ptr t, .int .i64 ai] u fun e w' => e = .returned (.bool (x2.fresh ai).isSome) ∧ Below u.heap.size u w') := fun u hu => tfresh (S3.out.below hu) WI.out
          have CIs : Hid (∀ u, Below wa3.heap.size wa3 u → Calls Tryz.prog 28 #[ptr r, .int .i64 ai] u fun e w' => e = .returned (.bool (x2.fresh ai).isSome) ∧ Below u.heap.size u w') := fun u hu => by
            have := ris (S3.out.below hu).up2 ai
            rw [IN.out.rel.is IOK] at this
            exact this
          have CPn : Hid (∀ u, Below wa3.heap.size wa3 u → Calls Tryz.prog 29 #[ptr b] u fun e w' => e = .returned (.int .i64 (d2.pend.length : Int)) ∧ u = w') := fun u hu => pending_s (S3.out.below hu).up1.part
          have BX : Hid (Below wa3.heap.size wa3 wa3.drew) := (Below.refl _ _).drew
          have k9 := KS.out _ BX.out
          generalize (x2.fresh ai).isSome = isb at *
          have hbb : (isb != isb) = false := by cases isb <;> rfl
          clear h0 hr0 z0 z1 y1 lq z2 lc2 hqa
          generalize x2.pages = P2 at *
          generalize d2.pend.length = PL at *
          go_wp2_with fail
          first | go_region_held3 (fun w' => w'.cell? ⟨r, 1, none⟩ = some (.slice (some ⟨qa, 0, none⟩) P2 qc) ∧ w'.cell? ⟨q, 1, none⟩ = some (.int .i64 ai) ∧ w'.cell? ⟨c, 1, none⟩ = some (.slice wo PL wc)) (first | assumption | exact k9) ((first | (go_at_call 26; refine Calls.mono (CPg.out _ BX.out) ?_; rintro e w4 ⟨rfl, rfl⟩) | (go_at_call 27; refine Calls.mono (CFs.out _ BX.out) ?_; rintro e w4 ⟨rfl, b4⟩; have BY : Hid (Below wa3.heap.size wa3 w4) := BX.out.trans (b4.mono BX.out.size); have hS := KS.out _ BY.out; clear BX b4; have BX := BY; clear BY) | (go_at_call 28; refine Calls.mono (CIs.out _ BX.out) ?_; rintro e w4 ⟨rfl, b4⟩; have BY : Hid (Below wa3.heap.size wa3 w4) := BX.out.trans (b4.mono BX.out.size); have hS := KS.out _ BY.out; clear BX b4; have BX := BY; clear BY) | (go_at_call 29; refine Calls.mono (CPn.out _ BX.out) ?_; rintro e w4 ⟨rfl, rfl⟩))) | fail
          all_goals
            have S5 : Hid (Sep w.heap.size w _ (Tx t f x2 :: File f b d2 :: RTx r g y2 :: RFile g c d2 :: [])) := (S3.out.below BX.out).up4.drop
            clear CPg CFs CIs CPn KS k9
            go_wp2
            go_roundg (l.length - (i + 1))
            case measure => omega
            case rel => exact ⟨i + 1, x2, y2, d2, by go_num, by omega, Nat.le_refl _, S5, IN⟩
      have nk3 : (Int.tmod ak 6 == 3) = false := beq_eq_false_iff_ne.2 hk3
      clear hk3
      by_cases hk4 : Int.tmod ak 6 = 4
      · as_aux_lemma =>
          have SD : Hid (Sep w.heap.size w wa (Tx t f x :: File f b d :: RTx r g y :: RFile g c d :: Blk q (.cells #[.int .i64 ak, .int .i64 ai, .int .u8 (akd.toNat : Int), .string sa] 40) :: [])) := S1
          have CA : Hid _ := tflush TT.out S1.out (by omega) (by omega) IR.out.sz (fun k hk => by have := IR.out.ok.fs k hk; exact Wf.of_lt (by omega) (by omega))
          have CB : Hid (∀ u L, KeysOf x.fresh L → Sep w.heap.size w u (Tx t f x :: File f b (flushL x.fresh L d).2 :: RTx r g y :: RFile g c d :: Blk q (.cells #[.int .i64 ak, .int .i64 ai, .int .u8 (akd.toNat : Int), .string sa] 40) :: []) → Calls Tryz.prog 20 #[ptr r] u fun e w' => e = .returned (.int .i64 (flushL x.fresh L d).1) ∧ Sep w.heap.size w w' (RTx r g y :: RFile g c (flushL x.fresh L d).2 :: Tx t f x :: File f b (flushL x.fresh L d).2 :: Blk q (.cells #[.int .i64 ak, .int .i64 ai, .int .u8 (akd.toNat : Int), .string sa] 40) :: [])) := fun u L hL hu => by
            have := rflush hu.up3.up3 IR.out.rel (by rw [IR.out.rm]; exact IR.out.ok) (by rw [IR.out.rm]; exact hrm) (by omega) IR.out.sz
            rw [← flush_all IR.out.ok hL d] at this
            exact this
          have IA : Hid (∀ L : List Int, L.length ≤ x.cnt → Inv Rm (i + 1) x y (flushL x.fresh L d).2) := fun L hL => IR.out.flush (by omega) hL
          obtain ⟨x2, hxx⟩ : ∃ z, z = x := ⟨_, rfl⟩
          obtain ⟨y2, hyy⟩ : ∃ z, z = y := ⟨_, rfl⟩
          subst hxx hyy
          clear S1
          go_wp2_with fail
          refine Calls.mono CA.out ?_
          rintro e w7 ⟨L7, hL7, hn7, rfl, s7⟩
          have C8 : Hid _ := CB.out w7 L7 hL7 s7
          have IN0 := IA.out L7 hn7
          obtain ⟨⟨er, d2⟩, hAR⟩ : ∃ z, flushL x2.fresh L7 d = z := ⟨_, rfl⟩
          rw [hAR] at C8 IN0 ⊢
          simp only at C8 IN0 ⊢
          have IN : Hid (Inv Rm (i + 1) x2 y2 d2) := IN0
          have hbe : (er != er) = false := by simp
          clear CA CB s7 a0c a1c a2c a3c ltq hL7 hn7 hAR IA IN0 SD
          go_wp2_with fail
          refine Calls.mono C8.out ?_
          rintro e w8 ⟨rfl, s8⟩
          have SN : Hid (Sep w.heap.size w w8 (Tx t f x2 :: File f b d2 :: RTx r g y2 :: RFile g c d2 :: Blk q (.cells #[.int .i64 ak, .int .i64 ai, .int .u8 (akd.toNat : Int), .string sa] 40) :: [])) := s8.up3.up3
          clear C8 s8
          have IOK := IN.out.ok
          have hpr2 := IOK.pr
          have hp22 := IOK.p2
          have hln2 := IOK.len
          have CFr : Hid _ := tfree SN.out IOK.cn (by omega)
          go_wp2_with fail
          refine Calls.mono CFr.out ?_
          rintro e wa1 ⟨a1, n1, c1, rfl, r1, b1⟩
          have s1 : Sep w.heap.size w wa1 (Tx t f x2 :: File f b d2 :: RTx r g y2 :: RFile g c d2 :: Blk q (.cells #[.int .i64 ak, .int .i64 ai, .int .u8 (akd.toNat : Int), .string sa] 40) :: []) := SN.out.below b1
          have CRn : Hid _ := rruns s1.up2 IN.out.rel IOK hrm
          have R1 : Aside (Row encP 2 wa1 (.slice a1 n1 c1) x2.free) := r1.row
          have S1' : Hid (Sep w.heap.size w wa1 (Tx t f x2 :: File f b d2 :: RTx r g y2 :: RFile g c d2 :: Blk q (.cells #[.int .i64 ak, .int .i64 ai, .int .u8 (akd.toNat : Int), .string sa] 40) :: [])) := s1
          clear CFr r1 b1 s1 SN
          go_wp2_with fail
          refine Calls.mono CRn.out ?_
          rintro e wa2 ⟨v2', rfl, r2, b2⟩
          obtain ⟨a2, c2, rfl, _⟩ := id r2
          have s2 : Sep w.heap.size w wa2 (Tx t f x2 :: File f b d2 :: RTx r g y2 :: RFile g c d2 :: Blk q (.cells #[.int .i64 ak, .int .i64 ai, .int .u8 (akd.toNat : Int), .string sa] 40) :: []) := S1'.out.below b2
          have CSm0 := same_any _ _ _ _ wa2 (R1.out.below b2) r2 (by omega) (by omega)
          rw [decide_eq_true (rfl : x2.free = x2.free)] at CSm0
          have CSm : Hid _ := CSm0
          have S2' : Hid (Sep w.heap.size w wa2 (Tx t f x2 :: File f b d2 :: RTx r g y2 :: RFile g c d2 :: Blk q (.cells #[.int .i64 ak, .int .i64 ai, .int .u8 (akd.toNat : Int), .string sa] 40) :: [])) := s2
          clear CRn CSm0 r2 b2 s2 R1 S1'
          go_wp2_with fail
          refine Calls.mono CSm.out ?_
          rintro e wa3 ⟨rfl, b3⟩
          have S3 : Hid (Sep w.heap.size w wa3 (Tx t f x2 :: File f b d2 :: RTx r g y2 :: RFile g c d2 :: Blk q (.cells #[.int .i64 ak, .int .i64 ai, .int .u8 (akd.toNat : Int), .string sa] 40) :: [])) := S2'.out.below b3
          clear CSm b3 S2'
          obtain ⟨g1, g2, g3, g4, g5, h0⟩ := S3.out.up2.rtxOpen
          obtain ⟨qa, qc, e1, hqa, _, _⟩ := brow_at (n := 0) h0.up1 (by have := IN.out.rel.len.l1; omega)
          subst e1
          rw [IN.out.rel.len.l1] at h0
          obtain ⟨hr0, z0, z1, _, _, _, _, _⟩ := rtx_cells h0
          obtain ⟨_, y1, _, _, lq⟩ := act10_cells S3.out.up4.blk
          obtain ⟨wo, wc, z2, lc2⟩ := S3.out.up3.rwait
          have KS : Hid (∀ u, Below wa3.heap.size wa3 u → u.cell? ⟨r, 1, none⟩ = some (.slice (some ⟨qa, 0, none⟩) x2.pages qc) ∧ u.cell? ⟨q, 1, none⟩ = some (.int .i64 ai) ∧ u.cell? ⟨c, 1, none⟩ = some (.slice wo d2.pend.length wc)) := fun u hu => ⟨(hu.cell (p := ⟨r, 1, none⟩) hr0).trans z1, (hu.cell (p := ⟨q, 1, none⟩) lq).trans y1, (hu.cell (p := ⟨c, 1, none⟩) lc2).trans z2⟩
          have CPg : Hid (∀ u, Below wa3.heap.size wa3 u → Calls Tryz.prog 26 #[ptr t] u fun e w' => e = .returned (.int .i64 (x2.pages : Int)) ∧ u = w') := fun u hu => tpages (S3.out.below hu) hp22
          have CFs : Hid (∀ u, Below wa3.heap.size wa3 u → Calls Tryz.prog 27 #[ptr t, .int .i64 ai] u fun e w' => e = .returned (.bool (x2.fresh ai).isSome) ∧ Below u.heap.size u w') := fun u hu => tfresh (S3.out.below hu) WI.out
          have CIs : Hid (∀ u, Below wa3.heap.size wa3 u → Calls Tryz.prog 28 #[ptr r, .int .i64 ai] u fun e w' => e = .returned (.bool (x2.fresh ai).isSome) ∧ Below u.heap.size u w') := fun u hu => by
            have := ris (S3.out.below hu).up2 ai
            rw [IN.out.rel.is IOK] at this
            exact this
          have CPn : Hid (∀ u, Below wa3.heap.size wa3 u → Calls Tryz.prog 29 #[ptr b] u fun e w' => e = .returned (.int .i64 (d2.pend.length : Int)) ∧ u = w') := fun u hu => pending_s (S3.out.below hu).up1.part
          have BX : Hid (Below wa3.heap.size wa3 wa3.drew) := (Below.refl _ _).drew
          have k9 := KS.out _ BX.out
          generalize (x2.fresh ai).isSome = isb at *
          have hbb : (isb != isb) = false := by cases isb <;> rfl
          clear h0 hr0 z0 z1 y1 lq z2 lc2 hqa
          generalize x2.pages = P2 at *
          generalize d2.pend.length = PL at *
          go_wp2_with fail
          first | go_region_held3 (fun w' => w'.cell? ⟨r, 1, none⟩ = some (.slice (some ⟨qa, 0, none⟩) P2 qc) ∧ w'.cell? ⟨q, 1, none⟩ = some (.int .i64 ai) ∧ w'.cell? ⟨c, 1, none⟩ = some (.slice wo PL wc)) (first | assumption | exact k9) ((first | (go_at_call 26; refine Calls.mono (CPg.out _ BX.out) ?_; rintro e w4 ⟨rfl, rfl⟩) | (go_at_call 27; refine Calls.mono (CFs.out _ BX.out) ?_; rintro e w4 ⟨rfl, b4⟩; have BY : Hid (Below wa3.heap.size wa3 w4) := BX.out.trans (b4.mono BX.out.size); have hS := KS.out _ BY.out; clear BX b4; have BX := BY; clear BY) | (go_at_call 28; refine Calls.mono (CIs.out _ BX.out) ?_; rintro e w4 ⟨rfl, b4⟩; have BY : Hid (Below wa3.heap.size wa3 w4) := BX.out.trans (b4.mono BX.out.size); have hS := KS.out _ BY.out; clear BX b4; have BX := BY; clear BY) | (go_at_call 29; refine Calls.mono (CPn.out _ BX.out) ?_; rintro e w4 ⟨rfl, rfl⟩))) | fail
          all_goals
            have S5 : Hid (Sep w.heap.size w _ (Tx t f x2 :: File f b d2 :: RTx r g y2 :: RFile g c d2 :: [])) := (S3.out.below BX.out).up4.drop
            clear CPg CFs CIs CPn KS k9
            go_wp2
            go_roundg (l.length - (i + 1))
            case measure => omega
            case rel => exact ⟨i + 1, x2, y2, d2, by go_num, by omega, Nat.le_refl _, S5, IN⟩
      have nk4 : (Int.tmod ak 6 == 4) = false := beq_eq_false_iff_ne.2 hk4
      clear hk4
      by_cases hk5 : Int.tmod ak 6 = 5
      · as_aux_lemma =>
          have CA : Hid _ := break_f S1.out.up1 ai WI.out.2
          have CB : Hid (∀ u, Sep w.heap.size w u (File f b (d.stop ai) :: Tx t f x :: RTx r g y :: RFile g c d :: Blk q (.cells #[.int .i64 ak, .int .i64 ai, .int .u8 (akd.toNat : Int), .string sa] 40) :: []) → _) := fun u hu => stop_rf hu.up3 ai WI.out.2
          have IN0 := IR.out.stop ai
          obtain ⟨d2, hAR⟩ : ∃ z, d.stop ai = z := ⟨_, rfl⟩
          rw [hAR] at CA CB IN0
          obtain ⟨x2, hxx⟩ : ∃ z, z = x := ⟨_, rfl⟩
          obtain ⟨y2, hyy⟩ : ∃ z, z = y := ⟨_, rfl⟩
          subst hxx hyy
          have IN : Hid (Inv Rm (i + 1) x2 y2 d2) := IN0
          clear hAR S1 IN0
          go_wp2_with fail
          refine Calls.mono CA.out ?_
          rintro e w7 ⟨rfl, s7⟩
          have C8 : Hid _ := CB.out w7 s7
          obtain ⟨_, p1, p2, _, _⟩ := act10_cells s7.up4.blk
          clear CA CB s7 a0c a1c a2c a3c ltq
          go_wp2_with fail
          refine Calls.mono C8.out ?_
          rintro e w8 ⟨rfl, s8⟩
          have SN : Hid (Sep w.heap.size w w8 (Tx t f x2 :: File f b d2 :: RTx r g y2 :: RFile g c d2 :: Blk q (.cells #[.int .i64 ak, .int .i64 ai, .int .u8 (akd.toNat : Int), .string sa] 40) :: [])) := s8.up3.up3.up3.up1
          clear C8 s8 p1 p2
          have IOK := IN.out.ok
          have hpr2 := IOK.pr
          have hp22 := IOK.p2
          have hln2 := IOK.len
          have CFr : Hid _ := tfree SN.out IOK.cn (by omega)
          go_wp2_with fail
          refine Calls.mono CFr.out ?_
          rintro e wa1 ⟨a1, n1, c1, rfl, r1, b1⟩
          have s1 : Sep w.heap.size w wa1 (Tx t f x2 :: File f b d2 :: RTx r g y2 :: RFile g c d2 :: Blk q (.cells #[.int .i64 ak, .int .i64 ai, .int .u8 (akd.toNat : Int), .string sa] 40) :: []) := SN.out.below b1
          have CRn : Hid _ := rruns s1.up2 IN.out.rel IOK hrm
          have R1 : Aside (Row encP 2 wa1 (.slice a1 n1 c1) x2.free) := r1.row
          have S1' : Hid (Sep w.heap.size w wa1 (Tx t f x2 :: File f b d2 :: RTx r g y2 :: RFile g c d2 :: Blk q (.cells #[.int .i64 ak, .int .i64 ai, .int .u8 (akd.toNat : Int), .string sa] 40) :: [])) := s1
          clear CFr r1 b1 s1 SN
          go_wp2_with fail
          refine Calls.mono CRn.out ?_
          rintro e wa2 ⟨v2', rfl, r2, b2⟩
          obtain ⟨a2, c2, rfl, _⟩ := id r2
          have s2 : Sep w.heap.size w wa2 (Tx t f x2 :: File f b d2 :: RTx r g y2 :: RFile g c d2 :: Blk q (.cells #[.int .i64 ak, .int .i64 ai, .int .u8 (akd.toNat : Int), .string sa] 40) :: []) := S1'.out.below b2
          have CSm0 := same_any _ _ _ _ wa2 (R1.out.below b2) r2 (by omega) (by omega)
          rw [decide_eq_true (rfl : x2.free = x2.free)] at CSm0
          have CSm : Hid _ := CSm0
          have S2' : Hid (Sep w.heap.size w wa2 (Tx t f x2 :: File f b d2 :: RTx r g y2 :: RFile g c d2 :: Blk q (.cells #[.int .i64 ak, .int .i64 ai, .int .u8 (akd.toNat : Int), .string sa] 40) :: [])) := s2
          clear CRn CSm0 r2 b2 s2 R1 S1'
          go_wp2_with fail
          refine Calls.mono CSm.out ?_
          rintro e wa3 ⟨rfl, b3⟩
          have S3 : Hid (Sep w.heap.size w wa3 (Tx t f x2 :: File f b d2 :: RTx r g y2 :: RFile g c d2 :: Blk q (.cells #[.int .i64 ak, .int .i64 ai, .int .u8 (akd.toNat : Int), .string sa] 40) :: [])) := S2'.out.below b3
          clear CSm b3 S2'
          obtain ⟨g1, g2, g3, g4, g5, h0⟩ := S3.out.up2.rtxOpen
          obtain ⟨qa, qc, e1, hqa, _, _⟩ := brow_at (n := 0) h0.up1 (by have := IN.out.rel.len.l1; omega)
          subst e1
          rw [IN.out.rel.len.l1] at h0
          obtain ⟨hr0, z0, z1, _, _, _, _, _⟩ := rtx_cells h0
          obtain ⟨_, y1, _, _, lq⟩ := act10_cells S3.out.up4.blk
          obtain ⟨wo, wc, z2, lc2⟩ := S3.out.up3.rwait
          have KS : Hid (∀ u, Below wa3.heap.size wa3 u → u.cell? ⟨r, 1, none⟩ = some (.slice (some ⟨qa, 0, none⟩) x2.pages qc) ∧ u.cell? ⟨q, 1, none⟩ = some (.int .i64 ai) ∧ u.cell? ⟨c, 1, none⟩ = some (.slice wo d2.pend.length wc)) := fun u hu => ⟨(hu.cell (p := ⟨r, 1, none⟩) hr0).trans z1, (hu.cell (p := ⟨q, 1, none⟩) lq).trans y1, (hu.cell (p := ⟨c, 1, none⟩) lc2).trans z2⟩
          have CPg : Hid (∀ u, Below wa3.heap.size wa3 u → Calls Tryz.prog 26 #[ptr t] u fun e w' => e = .returned (.int .i64 (x2.pages : Int)) ∧ u = w') := fun u hu => tpages (S3.out.below hu) hp22
          have CFs : Hid (∀ u, Below wa3.heap.size wa3 u → Calls Tryz.prog 27 #[ptr t, .int .i64 ai] u fun e w' => e = .returned (.bool (x2.fresh ai).isSome) ∧ Below u.heap.size u w') := fun u hu => tfresh (S3.out.below hu) WI.out
          have CIs : Hid (∀ u, Below wa3.heap.size wa3 u → Calls Tryz.prog 28 #[ptr r, .int .i64 ai] u fun e w' => e = .returned (.bool (x2.fresh ai).isSome) ∧ Below u.heap.size u w') := fun u hu => by
            have := ris (S3.out.below hu).up2 ai
            rw [IN.out.rel.is IOK] at this
            exact this
          have CPn : Hid (∀ u, Below wa3.heap.size wa3 u → Calls Tryz.prog 29 #[ptr b] u fun e w' => e = .returned (.int .i64 (d2.pend.length : Int)) ∧ u = w') := fun u hu => pending_s (S3.out.below hu).up1.part
          have BX : Hid (Below wa3.heap.size wa3 wa3.drew) := (Below.refl _ _).drew
          have k9 := KS.out _ BX.out
          generalize (x2.fresh ai).isSome = isb at *
          have hbb : (isb != isb) = false := by cases isb <;> rfl
          clear h0 hr0 z0 z1 y1 lq z2 lc2 hqa
          generalize x2.pages = P2 at *
          generalize d2.pend.length = PL at *
          go_wp2_with fail
          first | go_region_held3 (fun w' => w'.cell? ⟨r, 1, none⟩ = some (.slice (some ⟨qa, 0, none⟩) P2 qc) ∧ w'.cell? ⟨q, 1, none⟩ = some (.int .i64 ai) ∧ w'.cell? ⟨c, 1, none⟩ = some (.slice wo PL wc)) (first | assumption | exact k9) ((first | (go_at_call 26; refine Calls.mono (CPg.out _ BX.out) ?_; rintro e w4 ⟨rfl, rfl⟩) | (go_at_call 27; refine Calls.mono (CFs.out _ BX.out) ?_; rintro e w4 ⟨rfl, b4⟩; have BY : Hid (Below wa3.heap.size wa3 w4) := BX.out.trans (b4.mono BX.out.size); have hS := KS.out _ BY.out; clear BX b4; have BX := BY; clear BY) | (go_at_call 28; refine Calls.mono (CIs.out _ BX.out) ?_; rintro e w4 ⟨rfl, b4⟩; have BY : Hid (Below wa3.heap.size wa3 w4) := BX.out.trans (b4.mono BX.out.size); have hS := KS.out _ BY.out; clear BX b4; have BX := BY; clear BY) | (go_at_call 29; refine Calls.mono (CPn.out _ BX.out) ?_; rintro e w4 ⟨rfl, rfl⟩))) | fail
          all_goals
            have S5 : Hid (Sep w.heap.size w _ (Tx t f x2 :: File f b d2 :: RTx r g y2 :: RFile g c d2 :: [])) := (S3.out.below BX.out).up4.drop
            clear CPg CFs CIs CPn KS k9
            go_wp2
            go_roundg (l.length - (i + 1))
            case measure => omega
            case rel => exact ⟨i + 1, x2, y2, d2, by go_num, by omega, Nat.le_refl _, S5, IN⟩
      have nk5 : (Int.tmod ak 6 == 5) = false := beq_eq_false_iff_ne.2 hk5
      clear hk5
      as_aux_lemma =>
        obtain ⟨x2, hxx⟩ : ∃ z, z = x := ⟨_, rfl⟩
        obtain ⟨y2, hyy⟩ : ∃ z, z = y := ⟨_, rfl⟩
        obtain ⟨d2, hdd⟩ : ∃ z, z = d := ⟨_, rfl⟩
        subst hxx hyy hdd
        have IN : Hid (Inv Rm (i + 1) x2 y2 d2) := IR.out.next
        have SN : Hid (Sep w.heap.size w wa (Tx t f x2 :: File f b d2 :: RTx r g y2 :: RFile g c d2 :: Blk q (.cells #[.int .i64 ak, .int .i64 ai, .int .u8 (akd.toNat : Int), .string sa] 40) :: [])) := S1
        clear S1
        have IOK := IN.out.ok
        have hpr2 := IOK.pr
        have hp22 := IOK.p2
        have hln2 := IOK.len
        have CFr : Hid _ := tfree SN.out IOK.cn (by omega)
        go_wp2_with fail
        refine Calls.mono CFr.out ?_
        clear a0c a1c a2c a3c ltq
        rintro e wa1 ⟨a1, n1, c1, rfl, r1, b1⟩
        have s1 : Sep w.heap.size w wa1 (Tx t f x2 :: File f b d2 :: RTx r g y2 :: RFile g c d2 :: Blk q (.cells #[.int .i64 ak, .int .i64 ai, .int .u8 (akd.toNat : Int), .string sa] 40) :: []) := SN.out.below b1
        have CRn : Hid _ := rruns s1.up2 IN.out.rel IOK hrm
        have R1 : Aside (Row encP 2 wa1 (.slice a1 n1 c1) x2.free) := r1.row
        have S1' : Hid (Sep w.heap.size w wa1 (Tx t f x2 :: File f b d2 :: RTx r g y2 :: RFile g c d2 :: Blk q (.cells #[.int .i64 ak, .int .i64 ai, .int .u8 (akd.toNat : Int), .string sa] 40) :: [])) := s1
        clear CFr r1 b1 s1 SN
        go_wp2_with fail
        refine Calls.mono CRn.out ?_
        rintro e wa2 ⟨v2', rfl, r2, b2⟩
        obtain ⟨a2, c2, rfl, _⟩ := id r2
        have s2 : Sep w.heap.size w wa2 (Tx t f x2 :: File f b d2 :: RTx r g y2 :: RFile g c d2 :: Blk q (.cells #[.int .i64 ak, .int .i64 ai, .int .u8 (akd.toNat : Int), .string sa] 40) :: []) := S1'.out.below b2
        have CSm0 := same_any _ _ _ _ wa2 (R1.out.below b2) r2 (by omega) (by omega)
        rw [decide_eq_true (rfl : x2.free = x2.free)] at CSm0
        have CSm : Hid _ := CSm0
        have S2' : Hid (Sep w.heap.size w wa2 (Tx t f x2 :: File f b d2 :: RTx r g y2 :: RFile g c d2 :: Blk q (.cells #[.int .i64 ak, .int .i64 ai, .int .u8 (akd.toNat : Int), .string sa] 40) :: [])) := s2
        clear CRn CSm0 r2 b2 s2 R1 S1'
        go_wp2_with fail
        refine Calls.mono CSm.out ?_
        rintro e wa3 ⟨rfl, b3⟩
        have S3 : Hid (Sep w.heap.size w wa3 (Tx t f x2 :: File f b d2 :: RTx r g y2 :: RFile g c d2 :: Blk q (.cells #[.int .i64 ak, .int .i64 ai, .int .u8 (akd.toNat : Int), .string sa] 40) :: [])) := S2'.out.below b3
        clear CSm b3 S2'
        obtain ⟨g1, g2, g3, g4, g5, h0⟩ := S3.out.up2.rtxOpen
        obtain ⟨qa, qc, e1, hqa, _, _⟩ := brow_at (n := 0) h0.up1 (by have := IN.out.rel.len.l1; omega)
        subst e1
        rw [IN.out.rel.len.l1] at h0
        obtain ⟨hr0, z0, z1, _, _, _, _, _⟩ := rtx_cells h0
        obtain ⟨_, y1, _, _, lq⟩ := act10_cells S3.out.up4.blk
        obtain ⟨wo, wc, z2, lc2⟩ := S3.out.up3.rwait
        have KS : Hid (∀ u, Below wa3.heap.size wa3 u → u.cell? ⟨r, 1, none⟩ = some (.slice (some ⟨qa, 0, none⟩) x2.pages qc) ∧ u.cell? ⟨q, 1, none⟩ = some (.int .i64 ai) ∧ u.cell? ⟨c, 1, none⟩ = some (.slice wo d2.pend.length wc)) := fun u hu => ⟨(hu.cell (p := ⟨r, 1, none⟩) hr0).trans z1, (hu.cell (p := ⟨q, 1, none⟩) lq).trans y1, (hu.cell (p := ⟨c, 1, none⟩) lc2).trans z2⟩
        have CPg : Hid (∀ u, Below wa3.heap.size wa3 u → Calls Tryz.prog 26 #[ptr t] u fun e w' => e = .returned (.int .i64 (x2.pages : Int)) ∧ u = w') := fun u hu => tpages (S3.out.below hu) hp22
        have CFs : Hid (∀ u, Below wa3.heap.size wa3 u → Calls Tryz.prog 27 #[ptr t, .int .i64 ai] u fun e w' => e = .returned (.bool (x2.fresh ai).isSome) ∧ Below u.heap.size u w') := fun u hu => tfresh (S3.out.below hu) WI.out
        have CIs : Hid (∀ u, Below wa3.heap.size wa3 u → Calls Tryz.prog 28 #[ptr r, .int .i64 ai] u fun e w' => e = .returned (.bool (x2.fresh ai).isSome) ∧ Below u.heap.size u w') := fun u hu => by
          have := ris (S3.out.below hu).up2 ai
          rw [IN.out.rel.is IOK] at this
          exact this
        have CPn : Hid (∀ u, Below wa3.heap.size wa3 u → Calls Tryz.prog 29 #[ptr b] u fun e w' => e = .returned (.int .i64 (d2.pend.length : Int)) ∧ u = w') := fun u hu => pending_s (S3.out.below hu).up1.part
        have BX : Hid (Below wa3.heap.size wa3 wa3.drew) := (Below.refl _ _).drew
        have k9 := KS.out _ BX.out
        generalize (x2.fresh ai).isSome = isb at *
        have hbb : (isb != isb) = false := by cases isb <;> rfl
        clear h0 hr0 z0 z1 y1 lq z2 lc2 hqa
        generalize x2.pages = P2 at *
        generalize d2.pend.length = PL at *
        go_wp2_with fail
        first | go_region_held3 (fun w' => w'.cell? ⟨r, 1, none⟩ = some (.slice (some ⟨qa, 0, none⟩) P2 qc) ∧ w'.cell? ⟨q, 1, none⟩ = some (.int .i64 ai) ∧ w'.cell? ⟨c, 1, none⟩ = some (.slice wo PL wc)) (first | assumption | exact k9) ((first | (go_at_call 26; refine Calls.mono (CPg.out _ BX.out) ?_; rintro e w4 ⟨rfl, rfl⟩) | (go_at_call 27; refine Calls.mono (CFs.out _ BX.out) ?_; rintro e w4 ⟨rfl, b4⟩; have BY : Hid (Below wa3.heap.size wa3 w4) := BX.out.trans (b4.mono BX.out.size); have hS := KS.out _ BY.out; clear BX b4; have BX := BY; clear BY) | (go_at_call 28; refine Calls.mono (CIs.out _ BX.out) ?_; rintro e w4 ⟨rfl, b4⟩; have BY : Hid (Below wa3.heap.size wa3 w4) := BX.out.trans (b4.mono BX.out.size); have hS := KS.out _ BY.out; clear BX b4; have BX := BY; clear BY) | (go_at_call 29; refine Calls.mono (CPn.out _ BX.out) ?_; rintro e w4 ⟨rfl, rfl⟩))) | fail
        all_goals
          have S5 : Hid (Sep w.heap.size w _ (Tx t f x2 :: File f b d2 :: RTx r g y2 :: RFile g c d2 :: [])) := (S3.out.below BX.out).up4.drop
          clear CPg CFs CIs CPn KS k9
          go_wp2
          go_roundg (l.length - (i + 1))
          case measure => omega
          case rel => exact ⟨i + 1, x2, y2, d2, by go_num, by omega, Nat.le_refl _, S5, IN⟩
    · have hilz : ¬ (i : Int) < (l.length : Int) := by omega
      obtain rfl : i = l.length := by omega
      as_aux_lemma =>
        have hpr := IR.out.ok.pr
        have hp2 := IR.out.ok.p2
        have hcn := IR.out.cn
        obtain ⟨P, hP⟩ : ∃ z, x.pages = z := ⟨_, rfl⟩
        have HP : Hid (x.pages = P) := hP
        have LL := IR.out.rel.len
        rw [hP] at hpr hp2 LL
        have l2 := LL.l2
        clear hP
        go_wp2
        go_loopg [25, 26] P (fun kx s25 s26 wr => ∃ (k : Nat) (ta : Option Addr) (tn tc : Nat), s25 = .slice ta tn tc ∧ s26 = .int .i64 k ∧ k ≤ P ∧ P - k ≤ kx ∧ Hid (Sep w.heap.size w wr (RowR 3 (.slice ta tn tc) ((below x.fresh k).map (Value.int .i64)) :: Tx t f x :: File f b d :: RTx r g y :: RFile g c d :: [])))
        case atStart => exact ⟨0, none, 0, 0, rfl, rfl, Nat.zero_le _, Nat.le_refl _, SR.out.addNil 3⟩
        case round =>
          obtain ⟨k, ta, tn, tc, rfl, rfl, hk, hkk, SK⟩ := hrel
          clear SR
          obtain ⟨v1, v2, v3, v4, v5, h0⟩ := SK.out.up3.rtxOpen
          by_cases hkl : k < P
          · have hklz : (k : Int) < (P : Int) := by omega
            obtain ⟨q2, c2, e2, hq2, k2, _⟩ := brow_at (n := k) h0.up2 (by omega)
            subst e2
            rw [l2] at h0
            obtain ⟨hr0, m0, m1, m2, m3, m4, m5, _⟩ := rtx_cells h0
            have F2 := IR.out.rel.fs k (by rw [HP.out]; exact hkl)
            rw [F2] at k2
            have BS := below_succ x.fresh k
            have BL := below_len x.fresh k
            clear h0
            cases hfb : (x.fresh (k : Int)).isSome with
            | false =>
              rw [hfb] at k2 BS
              rw [if_neg (by decide), List.append_nil] at BS
              rw [← BS] at SK
              clear BS BL F2
              go_wp2
              go_roundg (P - (k + 1))
              case measure => omega
              case rel => exact ⟨k + 1, ta, tn, tc, rfl, by go_num, by omega, Nat.le_refl _, SK⟩
            | true =>
              rw [hfb] at k2 BS
              rw [if_pos rfl] at BS
              have HBS : Hid ((below x.fresh k).map (Value.int .i64) ++ [.int .i64 (k : Int)] = (below x.fresh (k + 1)).map (Value.int .i64)) := by show _ = _; rw [BS]; simp
              have hln : ((below x.fresh k).map (Value.int .i64)).length < 100000 := by rw [List.length_map]; omega
              clear BS BL F2
              go_wp2_with (at_builtin; refine app_int rfl _ _ rfl _ _ rfl (SK.out.alloc _) _ _ (k : Int) rfl (by simp) hln ?_)
              intro ta2 tn2 tc2 w9 s9
              rw [HBS.out] at s9
              have S9 : Hid _ := s9
              clear s9 hln SK
              go_wp2
              go_roundg (P - (k + 1))
              case measure => omega
              case rel => exact ⟨k + 1, ta2, tn2, tc2, rfl, by go_num, by omega, Nat.le_refl _, S9⟩
          · have hklz : ¬ (k : Int) < (P : Int) := by omega
            obtain rfl : k = P := by omega
            obtain ⟨q2, c2, e2, hq2, _, _⟩ := brow_at (n := 0) h0.up2 (by omega)
            subst e2
            rw [l2] at h0
            obtain ⟨hr0, m0, m1, m2, m3, m4, m5, _⟩ := rtx_cells h0
            have hsl := SK.out.up2.fok.len
            clear h0
            go_wp2
            clear m0 m1 m2 m3 m4 m5 hr0 hq2
            go_loopg [27] d.sure.length (fun kx s27 wr => ∃ (u : Nat), s27 = .int .i64 u ∧ u ≤ d.sure.length ∧ d.sure.length - u ≤ kx ∧ Aside (Sep w.heap.size w wr (RowR 3 (.slice ta tn tc) ((below x.fresh k).map (Value.int .i64)) :: Tx t f x :: File f b d :: RTx r g y :: RFile g c d :: [])))
            case atStart => exact ⟨0, rfl, by omega, by omega, SK.out⟩
            case round =>
              obtain ⟨u, rfl, hu, hgu, SS⟩ := hrel
              clear SK
              obtain ⟨sv, wv, hRm⟩ := SS.out.up4.rpart.ref
              obtain ⟨asv, csv, es⟩ := hRm.sv_slice
              have k0 := hRm.c0; have ltc := hRm.bl
              by_cases hul : u < d.sure.length
              · have huz : (u : Int) < (d.sure.length : Int) := by omega
                obtain ⟨rq, cq, eq2, y0, _, hrq⟩ := hRm.scell hul
                rw [eq2] at k0
                have Q60 := fun j => sure_s (SS.out.up2.part.drewN j) (u : Int)
                rw [show d.sureAt u = sAt d.sure u by unfold Dk.sureAt; rw [if_pos (Dk.has_nat hul)]; rfl] at Q60
                generalize sAt d.sure u = xs at y0 Q60
                have Q6 : Hid _ := quietly Q60
                clear Q60 eq2 hRm es
                go_wp2
                go_big_quiet (first | (go_at_call 30; with_reducible exact Q6.out _))
                clear Q6
                go_wp2
                go_roundg (d.sure.length - (u + 1))
                case measure => omega
                case rel => exact ⟨u + 1, by go_num, by omega, Nat.le_refl _, SS.out.drewN _⟩
              · have huz : ¬ (u : Int) < (d.sure.length : Int) := by omega
                rw [es] at k0
                have CTk : Hid _ := ttaken SS.out.up1 (by omega)
                clear hRm es
                go_wp2_with fail
                refine Calls.mono CTk.out ?_
                rintro e w9 ⟨v9, L9, rfl, hL9, hn9, hrow9, b9⟩
                have hu9 := hL9.unique (by have := below_keys IR.out.ok; rw [HP.out] at this; exact this)
                subst hu9
                have r9a : IntRow w9 v9 (below x.fresh k) := by
                  have s9 : Sep w.heap.size w w9 (RowR 3 v9 ((below x.fresh k).map (Value.int .i64)) :: RowR 3 (.slice ta tn tc) ((below x.fresh k).map (Value.int .i64)) :: Tx t f x :: File f b d :: RTx r g y :: RFile g c d :: []) := SS.out.add b9 (good_row _ _ _) (X := fun k => v9.ownBlock = some k) ⟨by
                      have := hrow9
                      rw [List.length_map]
                      refine ⟨this.1, ?_⟩
                      rcases this.2 with h0 | ⟨g, cap, cur, e0, hg, r0⟩
                      · exact .inl h0
                      · exact .inr ⟨g, cap, cur, e0, Nat.zero_le _, r0⟩, fun _ => Iff.rfl⟩ (fun k hk => by
                      rcases hrow9.2 with ⟨e0, _⟩ | ⟨g, cap, cur, e0, hg, _⟩
                      · rw [e0] at hk; simp [Value.ownBlock] at hk
                      · rw [e0] at hk; simp [Value.ownBlock] at hk; omega)
                  exact s9.introw
                have r9b := (SS.out.below b9).introw
                have hbl := below_len x.fresh k
                have CSI0 := sameI_any _ _ _ _ w9 r9a r9b (by omega) (by omega)
                rw [decide_eq_true (rfl : below x.fresh k = below x.fresh k)] at CSI0
                have CSI : Hid _ := CSI0
                have B9 : Hid (Below w.heap.size w w9) := SS.out.bel.trans (b9.mono SS.out.size)
                obtain ⟨av9, cv9, rfl, _⟩ := id r9a
                clear CTk hrow9 r9a r9b CSI0 b9 hL9
                go_wp2_with fail
                refine Calls.mono CSI.out ?_
                rintro e w10 ⟨rfl, b10⟩
                have B10 : Hid (Below w.heap.size w w10) := B9.out.trans (b10.mono B9.out.size)
                clear CSI b10
                go_wp2
                go_ret
                exact ⟨rfl, B10.out⟩

end Go.Proofs.YtnngfkjbbedkpaaGreatDoor

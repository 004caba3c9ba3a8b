/-
  The walk of AllocApart.
-/
import Derived.Test.YtnngfkjbbedkpaaAlApart
import Derived.Test.YtnngfkjbbedkpaaAlLeastWalk
import Derived.Deep.LoopGhost
namespace Go.Proofs.Ytnngfkjbbedkpaa
open Go.Shelf Go.RowKit Go.Lib Go.Sort
set_option linter.unusedVariables false

theorem take_nx {m : List Int} {k : Nat} (hk : k < m.length) : m.take (k + 1) = m.take k ++ [m.getD k 0] := by
  rw [List.take_add_one, List.getElem?_eq_getElem hk, List.getD_eq_getElem?_getD, List.getElem?_eq_getElem hk]; rfl
theorem filter_nx {m : List Int} {k : Nat} (hk : k < m.length) (ai : Int) : (m.take (k + 1)).filter (fun k => !decide (k = ai)) = (m.take k).filter (fun k => !decide (k = ai)) ++ (if m.getD k 0 = ai then [] else [m.getD k 0]) := by
  rw [take_nx hk, List.filter_append]
  generalize m.getD k 0 = z
  by_cases h : z = ai <;> simp [h]
theorem onesL_nx {m : List Int} {k : Nat} (hk : k < m.length) : onesL (m.take k) ++ [(m.getD k 0, m.getD k 0)] = onesL (m.take (k + 1)) := by
  rw [take_nx hk]; simp [onesL]
theorem getD_mem {m : List Int} {k : Nat} (hk : k < m.length) : m.getD k 0 ∈ m := by
  rw [List.getD_eq_getElem?_getD, List.getElem?_eq_getElem hk]; exact List.getElem_mem hk
theorem Sep.addRunNil {B : Nat} {w0 w : World} {l : List Res} (h : Sep B w0 w l) : Sep B w0 w (RunR (.slice none 0 0) [] :: l) := h.addRun (Below.refl _ _) (OwnP.empty _ _)

set_option maxRecDepth 100000 in
set_option maxHeartbeats 8000000 in
theorem allocApart (sectors : Int) (fv : Value) (fr : List Pr) (pages : Int) (lv : Value) (l : List A10) (w : World) (hs : -9223372036854775808 ≤ sectors ∧ sectors ≤ 9223372036854775807) (hF : Row encP 2 w fv fr) (hp : -9223372036854775808 ≤ pages ∧ pages ≤ 9223372036854775807) (hL : ActR10 w lv l) :
    Calls Try.prog 3 #[.int .i64 sectors, fv, .int .i64 pages, lv] w fun e w' => e = .returned (.bool true) ∧ Below w.heap.size w w' := by
  obtain ⟨fa, fc, rfl, _⟩ := id hF
  obtain ⟨ao, ca, rfl, _⟩ := hL.row
  have HF : Aside (Row encP 2 w (.slice fa fr.length fc) fr) := hF
  have HA : Aside (ActR10 w (.slice ao l.length ca) l) := hL
  have CW : Hid _ := works_any w
  clear hF hL hs hp
  by_cases h30 : (24 : Int) < sectors
  · go_enter Try.func3, Try.ntmps3
    go_wp2_with fail
    refine Calls.mono CW.out ?_
    rintro e w1 ⟨rfl, b1⟩
    have B1 : Hid (Below w.heap.size w w1) := b1
    clear b1 CW
    go_wp2
    go_ret
    exact ⟨rfl, B1.out⟩
  by_cases h31 : (100 : Int) < fr.length
  · go_enter Try.func3, Try.ntmps3
    go_wp2_with fail
    refine Calls.mono CW.out ?_
    rintro e w1 ⟨rfl, b1⟩
    have B1 : Hid (Below w.heap.size w w1) := b1
    clear b1 CW
    go_wp2
    go_ret
    exact ⟨rfl, B1.out⟩
  by_cases h32 : (100 : Int) < l.length
  · go_enter Try.func3, Try.ntmps3
    go_wp2_with fail
    refine Calls.mono CW.out ?_
    rintro e w1 ⟨rfl, b1⟩
    have B1 : Hid (Below w.heap.size w w1) := b1
    clear b1 CW
    go_wp2
    go_ret
    exact ⟨rfl, B1.out⟩
  have hf100 : fr.length ≤ 100 := by omega
  have hd100 : l.length ≤ 100 := by omega
  go_enter Try.func3, Try.ntmps3
  go_wp2_with fail
  refine Calls.mono CW.out ?_
  rintro e w1 ⟨rfl, b1⟩
  have S1 : Hid (Sep w.heap.size w w1 []) := Sep.nil b1.size b1
  clear b1 CW
  have CD : Hid _ := new_s sectors S1.out
  go_wp2_with fail
  refine Calls.mono CD.out ?_
  rintro e w2 ⟨b, rfl, s2⟩
  have CF : Hid _ := new_f s2
  have HOK : Hid (Dk.Ok (Dk.new sectors)) := s2.ok
  generalize Dk.new sectors = d at *
  clear CD S1 s2
  go_wp2_with fail
  refine Calls.mono CF.out ?_
  rintro e w3 ⟨f, rfl, s3⟩
  have hrm := room_le HOK.out
  have hr2 := room_ge d
  have CT : Hid _ := tnew s3 hrm (HF.out.below s3.bel) (by omega) pages
  have OK0 : Hid ((TX.new fr pages d.room).Ok d.room) := TX.new_ok fr pages hr2
  have CN0 : Hid ((TX.new fr pages d.room).cnt ≤ 0) := Nat.le_refl _
  have AP0 : Hid (Apart (TX.new fr pages d.room) [] (mnL [(2, ((TX.new fr pages d.room).pages : Int) - 1)] fr)) := Apart.new fr pages hr2 hrm
  generalize TX.new fr pages d.room = x0 at *
  clear CF s3 HOK
  go_wp2_with fail
  refine Calls.mono CT.out ?_
  rintro e w4 ⟨t, rfl, s4⟩
  have C5 : Hid _ := tpages s4 OK0.out.p2
  have S4 : Hid (Sep w.heap.size w w4 (Tx t f x0 :: File f b d :: [])) := s4
  clear CT s4
  have hp0 := OK0.out.pr
  have hp2 := OK0.out.p2
  have hwz : wrap64 ((x0.pages : Int) - 1) = (x0.pages : Int) - 1 := w64 (by omega) (by omega)
  go_wp2_with fail
  refine Calls.mono C5.out ?_
  rintro e w5 ⟨rfl, rfl⟩
  clear C5
  have CM : Hid _ := minus_o _ _ [(2, (x0.pages : Int) - 1)] fr (w4.alloc (.cells #[.int .i64 2, .int .i64 ((x0.pages : Int) - 1)] 33)) (row_one (Cl.new _ _ _)) (HF.out.below (S4.out.alloc _).bel) (by simp; omega)
  have HUl : Hid ((mnL [(2, (x0.pages : Int) - 1)] fr).length ≤ 102) := by have := mnL_length [(2, (x0.pages : Int) - 1)] fr; show _ ≤ _; simp at this; omega
  generalize mnL [(2, (x0.pages : Int) - 1)] fr = used at *
  have S5 : Hid (Sep w.heap.size w (w4.alloc (.cells #[.int .i64 2, .int .i64 ((x0.pages : Int) - 1)] 33)) (Tx t f x0 :: File f b d :: [])) := S4.out.alloc _
  clear S4 HF
  generalize (x0.pages : Int) = zp at *
  go_wp2_with fail
  refine Calls.mono CM.out ?_
  rintro e w6 ⟨ua, un, uc, rfl, r6, b6⟩
  have S6 : Hid (Sep w.heap.size w w6 (Tx t f x0 :: File f b d :: FreeR (.slice ua un uc) used :: RowR 3 (.slice none 0 0) (([] : List Int).map (Value.int .i64)) :: [])) := ((S5.out.addFree b6 r6).dn2.addNil 3).dn3
  clear CM r6 b6 S5
  go_wp2
  go_loopg [15, 16] l.length (fun kx s15 s16 wr => ∃ (i : Nat) (x : TX) (mine : List Int) (ma : Option Addr) (mn mc : Nat), s15 = .slice ma mn mc ∧ s16 = .int .i64 i ∧ i ≤ l.length ∧ l.length - i ≤ kx ∧ Hid (Sep w.heap.size w wr (Tx t f x :: File f b d :: FreeR (.slice ua un uc) used :: RowR 3 (.slice ma mn mc) (mine.map (Value.int .i64)) :: [])) ∧ Hid (x.Ok d.room) ∧ Hid (x.cnt ≤ i) ∧ Hid (Apart x mine used) ∧ Hid (mine.length ≤ i))
  case atStart => exact ⟨0, x0, [], none, 0, 0, rfl, rfl, Nat.zero_le _, Nat.le_refl _, S6, OK0, CN0, AP0, Nat.le_refl _⟩
  case round =>
    obtain ⟨i, x, mine, ma, mn, mc, rfl, rfl, hi, hki, SR, OKR, CNR, APR, ML⟩ := hrel
    clear S6 OK0 CN0 AP0 hp0 hp2 hwz
    obtain rfl : mn = mine.length := by
      obtain ⟨_, _, e⟩ := SR.out.up3.shape
      rw [List.length_map] at e
      cases e
      rfl
    by_cases hil : i < l.length
    · have hilz : (i : Int) < (l.length : Int) := by omega
      obtain ⟨r, o, rfl, hr, x0c, x1c, x2c, x3c, hsz, hwf⟩ := HA.out.at SR.out.bel (Nat.le_refl _) hil
      obtain ⟨AA, hA⟩ : ∃ A, l.getD i a10 = A := ⟨_, rfl⟩
      rw [hA] at x0c x1c x2c x3c hsz hwf
      clear hA
      obtain ⟨ak, ai, akd, sa⟩ := AA
      dsimp only at x0c x1c x2c x3c hsz hwf
      have WI : Hid (Wf ai) := hwf
      have S1 : Hid (Sep w.heap.size w (wr.alloc (.cells #[.int .i64 ak, .int .i64 ai, .int .u8 (akd.toNat : Int), .string sa] 38)) (Tx t f x :: File f b d :: FreeR (.slice ua un uc) used :: RowR 3 (.slice ma mine.length mc) (mine.map (Value.int .i64)) :: Blk wr.heap.size (.cells #[.int .i64 ak, .int .i64 ai, .int .u8 (akd.toNat : Int), .string sa] 38) :: [])) := (SR.out.addBlk _).dn4
      have hcn := CNR.out
      have hml := ML.out
      clear hr SR hsz hwf
      by_cases hk : Int.tmod ak 3 = 0
      · have hkb : (Int.tmod ak 3 == 0) = true := beq_iff_eq.2 hk
        have CDp : Hid _ := tdrop S1.out WI.out (by have := OKR.out.len; have := OKR.out.pr; omega)
        have OK2 : Hid ((x.drop ai).Ok d.room) := TX.drop_ok OKR.out ai
        have CN2 : Hid ((x.drop ai).cnt ≤ i + 1) := by show _ ≤ _; rw [drop_cnt]; omega
        have AP2 : Hid (Apart (x.drop ai) (mine.filter (fun k => !decide (k = ai))) used) := APR.out.drop OKR.out hrm ai
        generalize x.drop ai = x2 at *
        clear S1
        go_wp2_with fail
        generalize wr.alloc (.cells #[.int .i64 ak, .int .i64 ai, .int .u8 (akd.toNat : Int), .string sa] 38) = wa at *
        generalize wr.heap.size = q at *
        refine Calls.mono CDp.out ?_
        rintro e w7 ⟨rfl, s7⟩
        have S7 : Hid (Sep w.heap.size w w7 (Tx t f x2 :: File f b d :: FreeR (.slice ua un uc) used :: RowR 3 (.slice ma mine.length mc) (mine.map (Value.int .i64)) :: Blk q (.cells #[.int .i64 ak, .int .i64 ai, .int .u8 (akd.toNat : Int), .string sa] 38) :: [])) := s7
        clear CDp s7 x0c x1c x2c x3c
        go_wp2
        go_loopg [21, 22] mine.length (fun kx s21 s22 wr => ∃ (k : Nat) (ra : Option Addr) (rn rc : Nat), s21 = .slice ra rn rc ∧ s22 = .int .i64 k ∧ k ≤ mine.length ∧ mine.length - k ≤ kx ∧ Hid (Sep w.heap.size w wr (RowR 3 (.slice ra rn rc) (((mine.take k).filter (fun k => !decide (k = ai))).map (Value.int .i64)) :: Tx t f x2 :: File f b d :: FreeR (.slice ua un uc) used :: RowR 3 (.slice ma mine.length mc) (mine.map (Value.int .i64)) :: Blk q (.cells #[.int .i64 ak, .int .i64 ai, .int .u8 (akd.toNat : Int), .string sa] 38) :: [])))
        case atStart => exact ⟨0, none, 0, 0, rfl, rfl, Nat.zero_le _, Nat.le_refl _, S7.out.addNil 3⟩
        case round =>
          obtain ⟨k, ra, rn, rc, rfl, rfl, hk2, hkk, SK⟩ := hrel
          clear S7
          by_cases hkl : k < mine.length
          · have hklz : (k : Int) < (mine.length : Int) := by omega
            obtain ⟨r3, o3, hv3, hr3, hc3⟩ := SK.out.up4.introw.at hkl
            subst hv3
            have TN : Hid ((mine.take (k + 1)).filter (fun k => !decide (k = ai)) = (mine.take k).filter (fun k => !decide (k = ai)) ++ (if mine.getD k 0 = ai then [] else [mine.getD k 0])) := filter_nx hkl ai
            have HL : Hid (((mine.take k).filter (fun k => !decide (k = ai))).length ≤ 100) := by have h1 := List.length_filter_le (fun k => !decide (k = ai)) (mine.take k); have h2 := List.length_take_le k mine; show _ ≤ _; omega
            generalize mine.getD k 0 = mk at *
            obtain ⟨b0c, b1c, b2c, b3c, ltb⟩ := act10_cells SK.out.drop.up4.blk
            have KQ : Hid (∀ nq, (Sep w.heap.size w (wr.drewN nq) (RowR 3 (.slice ra rn rc) (((mine.take k).filter (fun k => !decide (k = ai))).map (Value.int .i64)) :: Tx t f x2 :: File f b d :: FreeR (.slice ua un uc) used :: RowR 3 (.slice (some ⟨r3, o3, none⟩) mine.length mc) (mine.map (Value.int .i64)) :: Blk q (.cells #[.int .i64 ak, .int .i64 ai, .int .u8 (akd.toNat : Int), .string sa] 38) :: [])) ∧ (wr.drewN nq).cell? ⟨r3, o3 + k, none⟩ = some (.int .i64 mk) ∧ r3 < (wr.drewN nq).heap.size) := fun nq => ⟨SK.out.drewN nq, hc3, hr3⟩
            by_cases hma : mk = ai
            · subst hma
              rw [if_pos rfl, List.append_nil] at TN
              have hbb : (mk != mk) = false := by simp
              clear SK
              go_wp2_with fail
              go_quiet (fail)
              obtain ⟨sq, _, _⟩ := KQ.out nq
              rw [← TN.out] at sq
              have SQ : Hid _ := sq
              clear sq KQ hc3 hr3 b0c b1c b2c b3c ltb
              generalize wr.drewN nq = wq at *
              go_wp2
              go_roundg (mine.length - (k + 1))
              case measure => omega
              case rel => exact ⟨k + 1, ra, rn, rc, rfl, by go_num, by omega, Nat.le_refl _, SQ⟩
            · rw [if_neg hma] at TN
              have hbb : (mk != ai) = true := bne_iff_ne.2 hma
              clear SK
              go_wp2_with fail
              go_quiet (fail)
              obtain ⟨sq, hcq, hrq⟩ := KQ.out nq
              have SQ : Hid (Sep w.heap.size w (wr.drewN nq) (RowR 3 (.slice ra rn rc) (((mine.take k).filter (fun k => !decide (k = ai))).map (Value.int .i64)) :: Tx t f x2 :: File f b d :: FreeR (.slice ua un uc) used :: RowR 3 (.slice (some ⟨r3, o3, none⟩) mine.length mc) (mine.map (Value.int .i64)) :: Blk q (.cells #[.int .i64 ak, .int .i64 ai, .int .u8 (akd.toNat : Int), .string sa] 38) :: [])) := sq
              have hln : ((((mine.take k).filter (fun k => !decide (k = ai))).map (Value.int .i64)).length) < 100000 := by have := HL.out; simp only [List.length_map]; omega
              clear sq KQ hc3 hr3 b0c b1c b2c b3c ltb
              generalize wr.drewN nq = wq at *
              go_wp2_with (at_builtin; refine app_int rfl _ _ rfl _ _ rfl (SQ.out.alloc _) _ _ mk rfl (by simp) hln ?_)
              intro ra2 rn2 rc2 w9 s9
              have e9 : ((mine.take k).filter (fun k => !decide (k = ai))).map (Value.int .i64) ++ [.int .i64 mk] = ((mine.take (k + 1)).filter (fun k => !decide (k = ai))).map (Value.int .i64) := by rw [TN.out]; simp
              rw [e9] at s9
              have S9 : Hid _ := s9
              clear s9 SQ e9 hln hcq hrq
              go_wp2
              go_roundg (mine.length - (k + 1))
              case measure => omega
              case rel => exact ⟨k + 1, ra2, rn2, rc2, rfl, by go_num, by omega, Nat.le_refl _, S9⟩
          · have hklz : ¬ (k : Int) < (mine.length : Int) := by omega
            obtain rfl : k = mine.length := by omega
            rw [List.take_length] at SK
            have ML2 : Hid ((mine.filter (fun k => !decide (k = ai))).length ≤ i + 1) := by have h1 := List.length_filter_le (fun k => !decide (k = ai)) mine; show _ ≤ _; omega
            generalize mine.filter (fun k => !decide (k = ai)) = M at *
            obtain rfl : rn = M.length := by
              obtain ⟨_, _, e⟩ := SK.out.shape
              rw [List.length_map] at e
              cases e
              rfl
            have SN0 : Sep w.heap.size w wr (Tx t f x2 :: File f b d :: FreeR (.slice ua un uc) used :: RowR 3 (.slice ra M.length rc) (M.map (Value.int .i64)) :: Blk q (.cells #[.int .i64 ak, .int .i64 ai, .int .u8 (akd.toNat : Int), .string sa] 38) :: []) := (SK.out.up4.drop).dn3
            have hMl := ML2.out
            obtain ⟨ma2, hma2⟩ : ∃ z, z = ra := ⟨_, rfl⟩
            obtain ⟨mc2, hmc2⟩ : ∃ z, z = rc := ⟨_, rfl⟩
            subst hma2 hmc2
            have SN : Hid (Sep w.heap.size w wr (Tx t f x2 :: File f b d :: FreeR (.slice ua un uc) used :: RowR 3 (.slice ma2 M.length mc2) (M.map (Value.int .i64)) :: Blk q (.cells #[.int .i64 ak, .int .i64 ai, .int .u8 (akd.toNat : Int), .string sa] 38) :: [])) := SN0
            clear SK SN0 hklz
            go_wp2
            go_loopg [23, 24] M.length (fun kx s23 s24 wr => ∃ (k : Nat) (ga : Option Addr) (gn gc : Nat), s23 = .slice ga gn gc ∧ s24 = .int .i64 k ∧ k ≤ M.length ∧ M.length - k ≤ kx ∧ Hid (Sep w.heap.size w wr (RunR (.slice ga gn gc) (onesL (M.take k)) :: Tx t f x2 :: File f b d :: FreeR (.slice ua un uc) used :: RowR 3 (.slice ma2 M.length mc2) (M.map (Value.int .i64)) :: Blk q (.cells #[.int .i64 ak, .int .i64 ai, .int .u8 (akd.toNat : Int), .string sa] 38) :: [])))
            case atStart => exact ⟨0, none, 0, 0, rfl, rfl, Nat.zero_le _, Nat.le_refl _, SN.out.addRunNil⟩
            case round =>
              obtain ⟨k, ga, gn, gc, rfl, rfl, hk2, hkk, SK⟩ := hrel
              clear SN
              by_cases hkl : k < M.length
              · have hklz : (k : Int) < (M.length : Int) := by omega
                obtain ⟨r3, o3, hv3, hr3, hc3⟩ := SK.out.up4.introw.at hkl
                subst hv3
                have hfr := (AP2.out.me _).1 (getD_mem hkl)
                have hwf : Wf (M.getD k 0) := by
                  have h1 := OK2.out.fs _ hfr
                  have h2 := OK2.out.pr
                  exact Wf.of_lt (by omega) (by omega)
                have TN : Hid (onesL (M.take k) ++ [(M.getD k 0, M.getD k 0)] = onesL (M.take (k + 1))) := onesL_nx hkl
                have hln : (onesL (M.take k)).length < 100000 := by simp [onesL]; omega
                obtain ⟨mk, hmk⟩ : ∃ mk, M.getD k 0 = mk := ⟨_, rfl⟩
                have HMK : Hid (M.getD k 0 = mk) := hmk
                rw [hmk] at hc3 hfr hwf TN
                clear hmk
                have SKd : Hid (Sep w.heap.size w wr.drew (RunR (.slice ga gn gc) (onesL (M.take k)) :: Tx t f x2 :: File f b d :: FreeR (.slice ua un uc) used :: RowR 3 (.slice (some ⟨r3, o3, none⟩) M.length mc2) (M.map (Value.int .i64)) :: Blk q (.cells #[.int .i64 ak, .int .i64 ai, .int .u8 (akd.toNat : Int), .string sa] 38) :: [])) := SK.out.drew
                have KA : ∀ ob, (wr.drew.alloc ob).cell? ⟨r3, o3 + k, none⟩ = some (.int .i64 mk) := fun ob => (World.cell?_alloc_lt (a := ⟨r3, o3 + k, none⟩) wr.drew ob hr3).trans hc3
                have HS9 : Hid (∀ u ga9 gn9 gc9, Sep w.heap.size w u (RunR (.slice ga9 gn9 gc9) (onesL (M.take (k + 1))) :: Tx t f x2 :: File f b d :: FreeR (.slice ua un uc) used :: RowR 3 (.slice (some ⟨r3, o3, none⟩) M.length mc2) (M.map (Value.int .i64)) :: Blk q (.cells #[.int .i64 ak, .int .i64 ai, .int .u8 (akd.toNat : Int), .string sa] 38) :: []) → u.cell? ⟨r3, o3 + k, none⟩ = some (.int .i64 mk)) := fun u ga9 gn9 gc9 hu => by
                  obtain ⟨r4, o4, hv4, hr4, hc4⟩ := hu.up4.introw.at hkl
                  rw [HMK.out] at hc4
                  cases hv4
                  exact hc4
                go_wp2_with fail
                go_region_held3 (fun w' => w'.cell? ⟨r3, o3 + k, none⟩ = some (.int .i64 mk)) (first | assumption | exact hc3 | exact KA _) ((refine step_run rfl _ _ rfl _ _ rfl (SKd.out.alloc _) _ _ mk mk rfl (Cl.new _ _ _) hln ?_; intro ga2 gn2 gc2 w9 s9; rw [TN.out] at s9; have hS9 := HS9.out _ _ _ _ s9; have S9 : Hid _ := s9; clear s9))
                have CFr0 := tfresh (Sep.up1 S9.out) hwf
                rw [hfr] at CFr0
                have CFr : Hid _ := CFr0
                clear CFr0 SK SKd KA HS9 hr3 hc3 hln TN
                go_wp2_with fail
                refine Calls.mono CFr.out ?_
                rintro e w10 ⟨rfl, b10⟩
                have S10 : Hid _ := Sep.below S9.out b10
                clear S9 b10 CFr
                go_wp2
                go_roundg (M.length - (k + 1))
                case measure => omega
                case rel => exact ⟨k + 1, ga2, gn2, gc2, rfl, by go_num, by omega, Nat.le_refl _, S10⟩
              · have hklz : ¬ (k : Int) < (M.length : Int) := by omega
                obtain rfl : k = M.length := by omega
                rw [List.take_length] at SK
                obtain ⟨es, ec⟩ := AP2.out.sum OK2.out hrm
                have hp2 := OK2.out.p2
                have hpr := OK2.out.pr
                have hfl := OK2.out.len
                have hul := HUl.out
                have CP : Hid _ := tpages SK.out.up1 hp2
                obtain ⟨pz, hpz⟩ : ∃ z : Int, (x2.pages : Int) = z := ⟨_, rfl⟩
                have hpz1 : 2 ≤ pz := by omega
                have hpz2 : pz ≤ 16384 := by omega
                rw [hpz] at CP es ec
                clear hpz
                have hwz : wrap64 (pz - 1) = pz - 1 := w64 (by omega) (by omega)
                have SA : Hid (Sep w.heap.size w (wr.alloc (.cells #[.int .i64 2, .int .i64 (pz - 1)] 33)) (RunR (.slice ga gn gc) (onesL M) :: Tx t f x2 :: File f b d :: FreeR (.slice ua un uc) used :: RowR 3 (.slice ma2 M.length mc2) (M.map (Value.int .i64)) :: Blk q (.cells #[.int .i64 ak, .int .i64 ai, .int .u8 (akd.toNat : Int), .string sa] 38) :: [])) := SK.out.alloc _
                have RN : Aside (Row encP 2 (wr.alloc (.cells #[.int .i64 2, .int .i64 (pz - 1)] 33)) (.slice (some ⟨wr.heap.size, 0, none⟩) 1 1) [(2, pz - 1)]) := row_one (Cl.new _ _ _)
                have OL : Hid ((onesL M).length ≤ 1000) := by show _ ≤ _; simp [onesL]; omega
                go_wp2_with fail
                refine Calls.mono CP.out ?_
                rintro e w10 ⟨rfl, rfl⟩
                clear CP SK
                go_wp2_with fail
                generalize wr.alloc (.cells #[.int .i64 2, .int .i64 (pz - 1)] 33) = wq at *
                generalize wr.heap.size = nq at *
                have CFree : Hid (∀ u, Sep w.heap.size w u (RunR (.slice ga gn gc) (onesL M) :: Tx t f x2 :: File f b d :: FreeR (.slice ua un uc) used :: RowR 3 (.slice ma2 M.length mc2) (M.map (Value.int .i64)) :: Blk q (.cells #[.int .i64 ak, .int .i64 ai, .int .u8 (akd.toNat : Int), .string sa] 38) :: []) → Calls Try.prog 15 #[ptr t] u (GivesO u x2.free)) := fun u hu => tfree hu.up1 OK2.out.cn (by omega)
                have C1 : Hid _ := CFree.out wq SA.out
                refine Calls.mono C1.out ?_
                rintro e w11 ⟨a11, n11, c11, rfl, r11, b11⟩
                have S11 : Hid (Sep w.heap.size w w11 (RunR (.slice ga gn gc) (onesL M) :: Tx t f x2 :: File f b d :: FreeR (.slice ua un uc) used :: RowR 3 (.slice ma2 M.length mc2) (M.map (Value.int .i64)) :: Blk q (.cells #[.int .i64 ak, .int .i64 ai, .int .u8 (akd.toNat : Int), .string sa] 38) :: [])) := SA.out.below b11
                have RN11 : Aside (Row encP 2 w11 (.slice (some ⟨nq, 0, none⟩) 1 1) [(2, pz - 1)]) := RN.out.below b11
                have C2 : Hid _ := count_any _ _ w11 r11.row (by omega)
                have c1b := cnt_le (nmL_cn x2.free)
                have c2b := cnt_le (nmL_cn (onesL M))
                have c3b := cnt_le (nmL_cn used)
                have c4b := cnt_le (nmL_cn [(2, pz - 1)])
                obtain ⟨c4, hc4⟩ : ∃ z, cntL (nmL [(2, pz - 1)]) = z := ⟨_, rfl⟩
                have HC4 : Hid (cntL (nmL [(2, pz - 1)]) = c4) := hc4
                rw [hc4] at ec c4b
                obtain ⟨k1, hk1⟩ : ∃ z, cntL (nmL x2.free) = z := ⟨_, rfl⟩
                obtain ⟨k2, hk2'⟩ : ∃ z, cntL (nmL (onesL M)) = z := ⟨_, rfl⟩
                obtain ⟨k3, hk3⟩ : ∃ z, cntL (nmL used) = z := ⟨_, rfl⟩
                rw [hk1, hk2', hk3] at ec
                rw [hk1] at c1b C2
                rw [hk2'] at c2b
                rw [hk3] at c3b
                have HK2 : Hid (cntL (nmL (onesL M)) = k2) := hk2'
                have HK3 : Hid (cntL (nmL used) = k3) := hk3
                clear C1 SA RN r11 b11 hc4 hk1 hk2' hk3
                have hw1 : wrap64 (k1 + k2) = k1 + k2 := w64 (by omega) (by omega)
                have hw2 : wrap64 (k1 + k2 + k3) = c4 := by rw [w64 (by omega) (by omega)]; omega
                go_wp2_with fail
                refine Calls.mono C2.out ?_
                rintro e w12 ⟨rfl, b12⟩
                have S12 : Hid (Sep w.heap.size w w12 (RunR (.slice ga gn gc) (onesL M) :: Tx t f x2 :: File f b d :: FreeR (.slice ua un uc) used :: RowR 3 (.slice ma2 M.length mc2) (M.map (Value.int .i64)) :: Blk q (.cells #[.int .i64 ak, .int .i64 ai, .int .u8 (akd.toNat : Int), .string sa] 38) :: [])) := S11.out.below b12
                have RN12 : Aside (Row encP 2 w12 (.slice (some ⟨nq, 0, none⟩) 1 1) [(2, pz - 1)]) := RN11.out.below b12
                have C3 := count_any _ _ w12 S12.out.run.own.row (by have := OL.out; omega)
                rw [HK2.out] at C3
                have C4 : Hid _ := C3
                clear C2 C3 S11 RN11 b12
                go_wp2_with fail
                refine Calls.mono C4.out ?_
                rintro e w13 ⟨rfl, b13⟩
                have S13 : Hid (Sep w.heap.size w w13 (RunR (.slice ga gn gc) (onesL M) :: Tx t f x2 :: File f b d :: FreeR (.slice ua un uc) used :: RowR 3 (.slice ma2 M.length mc2) (M.map (Value.int .i64)) :: Blk q (.cells #[.int .i64 ak, .int .i64 ai, .int .u8 (akd.toNat : Int), .string sa] 38) :: [])) := S12.out.below b13
                have RN13 : Aside (Row encP 2 w13 (.slice (some ⟨nq, 0, none⟩) 1 1) [(2, pz - 1)]) := RN12.out.below b13
                have C5 := count_any _ _ w13 S13.out.up3.free.row (by omega)
                rw [HK3.out] at C5
                have C6 : Hid _ := C5
                clear C4 C5 S12 RN12 b13
                go_wp2_with fail
                refine Calls.mono C6.out ?_
                rintro e w14 ⟨rfl, b14⟩
                have S14 : Hid (Sep w.heap.size w w14 (RunR (.slice ga gn gc) (onesL M) :: Tx t f x2 :: File f b d :: FreeR (.slice ua un uc) used :: RowR 3 (.slice ma2 M.length mc2) (M.map (Value.int .i64)) :: Blk q (.cells #[.int .i64 ak, .int .i64 ai, .int .u8 (akd.toNat : Int), .string sa] 38) :: [])) := S13.out.below b14
                have RN14 : Aside (Row encP 2 w14 (.slice (some ⟨nq, 0, none⟩) 1 1) [(2, pz - 1)]) := RN13.out.below b14
                have C7 : Hid _ := CFree.out w14 S14.out
                clear C6 S13 RN13 b14
                go_wp2_with fail
                refine Calls.mono C7.out ?_
                rintro e w15 ⟨a15, n15, c15, rfl, r15, b15⟩
                have S15 : Hid (Sep w.heap.size w w15 (RunR (.slice ga gn gc) (onesL M) :: Tx t f x2 :: File f b d :: FreeR (.slice ua un uc) used :: RowR 3 (.slice ma2 M.length mc2) (M.map (Value.int .i64)) :: Blk q (.cells #[.int .i64 ak, .int .i64 ai, .int .u8 (akd.toNat : Int), .string sa] 38) :: [])) := S14.out.below b15
                have RN15 : Aside (Row encP 2 w15 (.slice (some ⟨nq, 0, none⟩) 1 1) [(2, pz - 1)]) := RN14.out.below b15
                have R15 : Aside (Row encP 2 w15 (.slice a15 n15 c15) x2.free) := r15.row
                have C8 : Hid _ := union_o _ _ _ _ w15 S15.out.run.own.row S15.out.up3.free.row (by have := OL.out; omega)
                clear C7 S14 RN14 r15 b15
                go_wp2_with fail
                refine Calls.mono C8.out ?_
                rintro e w16 ⟨a16, n16, c16, rfl, r16, b16⟩
                have S16 : Hid (Sep w.heap.size w w16 (RunR (.slice ga gn gc) (onesL M) :: Tx t f x2 :: File f b d :: FreeR (.slice ua un uc) used :: RowR 3 (.slice ma2 M.length mc2) (M.map (Value.int .i64)) :: Blk q (.cells #[.int .i64 ak, .int .i64 ai, .int .u8 (akd.toNat : Int), .string sa] 38) :: [])) := S15.out.below b16
                have RN16 : Aside (Row encP 2 w16 (.slice (some ⟨nq, 0, none⟩) 1 1) [(2, pz - 1)]) := RN15.out.below b16
                have C9 := union_o _ _ _ _ w16 (R15.out.below b16) r16.row (by have := OL.out; have := unL_length (onesL M) used; omega)
                rw [es] at C9
                have C10 : Hid _ := C9
                clear C8 C9 S15 RN15 r16 b16 R15
                go_wp2_with fail
                refine Calls.mono C10.out ?_
                rintro e w17 ⟨a17, n17, c17, rfl, r17, b17⟩
                have S17 : Hid (Sep w.heap.size w w17 (RunR (.slice ga gn gc) (onesL M) :: Tx t f x2 :: File f b d :: FreeR (.slice ua un uc) used :: RowR 3 (.slice ma2 M.length mc2) (M.map (Value.int .i64)) :: Blk q (.cells #[.int .i64 ak, .int .i64 ai, .int .u8 (akd.toNat : Int), .string sa] 38) :: [])) := S16.out.below b17
                have RN17 : Aside (Row encP 2 w17 (.slice (some ⟨nq, 0, none⟩) 1 1) [(2, pz - 1)]) := RN16.out.below b17
                have R17 : Aside (Row encP 2 w17 (.slice a17 n17 c17) (nmL [(2, pz - 1)])) := r17.row
                have C11 : Hid _ := norm_o _ _ w17 RN17.out (by simp)
                clear C10 S16 RN16 r17 b17
                go_wp2_with fail
                refine Calls.mono C11.out ?_
                rintro e w18 ⟨a18, n18, c18, rfl, r18, b18⟩
                have S18 : Hid (Sep w.heap.size w w18 (RunR (.slice ga gn gc) (onesL M) :: Tx t f x2 :: File f b d :: FreeR (.slice ua un uc) used :: RowR 3 (.slice ma2 M.length mc2) (M.map (Value.int .i64)) :: Blk q (.cells #[.int .i64 ak, .int .i64 ai, .int .u8 (akd.toNat : Int), .string sa] 38) :: [])) := S17.out.below b18
                have RN18 : Aside (Row encP 2 w18 (.slice (some ⟨nq, 0, none⟩) 1 1) [(2, pz - 1)]) := RN17.out.below b18
                have hnl := nmL_length [(2, pz - 1)]
                simp only [List.length_cons, List.length_nil] at hnl
                have C12 := same_any _ _ _ _ w18 (R17.out.below b18) r18.row (by omega) (by omega)
                rw [decide_eq_true (rfl : nmL [(2, pz - 1)] = nmL [(2, pz - 1)])] at C12
                have C13 : Hid _ := C12
                clear C11 C12 S17 RN17 r18 b18 R17
                go_wp2_with fail
                refine Calls.mono C13.out ?_
                rintro e w19 ⟨rfl, b19⟩
                have S19 : Hid (Sep w.heap.size w w19 (RunR (.slice ga gn gc) (onesL M) :: Tx t f x2 :: File f b d :: FreeR (.slice ua un uc) used :: RowR 3 (.slice ma2 M.length mc2) (M.map (Value.int .i64)) :: Blk q (.cells #[.int .i64 ak, .int .i64 ai, .int .u8 (akd.toNat : Int), .string sa] 38) :: [])) := S18.out.below b19
                have RN19 : Aside (Row encP 2 w19 (.slice (some ⟨nq, 0, none⟩) 1 1) [(2, pz - 1)]) := RN18.out.below b19
                have C14 := count_any _ _ w19 RN19.out (by simp)
                rw [HC4.out] at C14
                have C15 : Hid _ := C14
                clear C13 C14 S18 RN18 b19
                go_wp2_with fail
                refine Calls.mono C15.out ?_
                rintro e w20 ⟨rfl, b20⟩
                have S20 : Hid (Sep w.heap.size w w20 (RunR (.slice ga gn gc) (onesL M) :: Tx t f x2 :: File f b d :: FreeR (.slice ua un uc) used :: RowR 3 (.slice ma2 M.length mc2) (M.map (Value.int .i64)) :: Blk q (.cells #[.int .i64 ak, .int .i64 ai, .int .u8 (akd.toNat : Int), .string sa] 38) :: [])) := S19.out.below b20
                have C16 : Hid _ := ttaken S20.out.up1 (by have := CN2.out; omega)
                clear C15 S19 RN19 b20
                go_wp2_with fail
                refine Calls.mono C16.out ?_
                rintro e w21 ⟨v21, L21, rfl, hL21, _, hrow21, b21⟩
                have hlen := AP2.out.taken hL21
                obtain ⟨a21, c21, rfl⟩ : ∃ ao c, v21 = .slice ao M.length c := by
                  rcases hrow21.2 with ⟨h1, h2⟩ | ⟨g, cap, cur, h1, _⟩
                  · exact ⟨none, 0, by rw [h1, ← hlen, h2]⟩
                  · exact ⟨_, _, by rw [h1, hlen]⟩
                have S21 : Hid (Sep w.heap.size w w21 (Tx t f x2 :: File f b d :: FreeR (.slice ua un uc) used :: RowR 3 (.slice ma2 M.length mc2) (M.map (Value.int .i64)) :: [])) := (S20.out.below b21).drop.up4.drop
                clear C16 S20 hL21 hrow21 b21 hlen
                go_wp2
                go_roundg (l.length - (i + 1))
                case measure => omega
                case rel => exact ⟨i + 1, x2, M, ma2, M.length, mc2, rfl, by go_num, by omega, Nat.le_refl _, S21, OK2, CN2, AP2, ML2⟩
      · have hkb : (Int.tmod ak 3 == 0) = false := beq_eq_false_iff_ne.2 hk
        have CA : Hid _ := talloc S1.out OKR.out hrm (by omega)
        have OK2 : Hid ((x.alloc d.room).2.Ok d.room) := TX.alloc_ok OKR.out
        have CN2 : Hid ((x.alloc d.room).2.cnt ≤ i + 1) := Nat.le_trans (alloc_cnt x d.room) (by omega)
        by_cases he : (x.alloc d.room).1.2 = 0
        · obtain ⟨hm1, hm2, hm3, hm4, hm5⟩ := APR.out.alloc OKR.out hrm he
          have AP2 : Hid _ := hm5
          rw [he] at CA
          have HM1 : Hid ((x.alloc d.room).1.1 ∉ mine) := hm1
          generalize (x.alloc d.room).1.1 = id at *
          generalize (x.alloc d.room).2 = x2 at *
          clear hm1 hm5 he S1
          go_wp2_with fail
          generalize wr.alloc (.cells #[.int .i64 ak, .int .i64 ai, .int .u8 (akd.toNat : Int), .string sa] 38) = wa at *
          generalize wr.heap.size = q at *
          refine Calls.mono CA.out ?_
          rintro e w7 ⟨rfl, s7⟩
          have S7 : Hid (Sep w.heap.size w w7 (Tx t f x2 :: File f b d :: FreeR (.slice ua un uc) used :: RowR 3 (.slice ma mine.length mc) (mine.map (Value.int .i64)) :: Blk q (.cells #[.int .i64 ak, .int .i64 ai, .int .u8 (akd.toNat : Int), .string sa] 38) :: [])) := s7
          clear CA s7 x0c x1c x2c x3c
          go_wp2
          go_loopg [20] mine.length (fun kx s20 wr2 => ∃ (k : Nat), s20 = .int .i64 k ∧ k ≤ mine.length ∧ mine.length - k ≤ kx ∧ Hid (Sep w.heap.size w wr2 (Tx t f x2 :: File f b d :: FreeR (.slice ua un uc) used :: RowR 3 (.slice ma mine.length mc) (mine.map (Value.int .i64)) :: Blk q (.cells #[.int .i64 ak, .int .i64 ai, .int .u8 (akd.toNat : Int), .string sa] 38) :: [])))
          case atStart => exact ⟨0, rfl, Nat.zero_le _, Nat.le_refl _, S7⟩
          case round =>
            obtain ⟨k, rfl, hk2, hkk, SK⟩ := hrel
            clear S7
            by_cases hkl : k < mine.length
            · have hklz : (k : Int) < (mine.length : Int) := by omega
              obtain ⟨r3, o3, rfl, hr3, hc3⟩ := SK.out.up3.introw.at hkl
              have hne : (mine.getD k 0 == id) = false := beq_eq_false_iff_ne.2 (fun e => HM1.out (e ▸ getD_mem hkl))
              generalize mine.getD k 0 = mk at *
              go_wp2
              go_roundg (mine.length - (k + 1))
              case measure => omega
              case rel => exact ⟨k + 1, by go_num, by omega, Nat.le_refl _, SK⟩
            · have hklz : ¬ (k : Int) < (mine.length : Int) := by omega
              obtain rfl : k = mine.length := by omega
              clear HM1
              have CH0 := has_any _ _ id wr SK.out.up2.free.row (by have := HUl.out; omega)
              rw [hm2] at CH0
              have CH : Hid _ := CH0
              clear CH0 hm2
              have hid2 : ¬ id < 2 := by omega
              have hidr : ¬ (d.room : Int) ≤ id := by omega
              have CRm : Hid (∀ u, Sep w.heap.size w u (Tx t f x2 :: File f b d :: FreeR (.slice ua un uc) used :: RowR 3 (.slice ma mine.length mc) (mine.map (Value.int .i64)) :: Blk q (.cells #[.int .i64 ak, .int .i64 ai, .int .u8 (akd.toNat : Int), .string sa] 38) :: []) → Calls Try.prog 13 #[ptr f] u fun e w' => e = .returned (.int .i64 (d.room : Int)) ∧ u = w') := fun u hu => room_f hu.up1
              generalize (d.room : Int) = rmz at *
              go_wp2_with fail
              refine Calls.mono CH.out ?_
              rintro e w8 ⟨rfl, b8⟩
              have S8 : Hid (Sep w.heap.size w w8 (Tx t f x2 :: File f b d :: FreeR (.slice ua un uc) used :: RowR 3 (.slice ma mine.length mc) (mine.map (Value.int .i64)) :: Blk q (.cells #[.int .i64 ak, .int .i64 ai, .int .u8 (akd.toNat : Int), .string sa] 38) :: [])) := SK.out.below b8
              have CR2 : Hid _ := CRm.out w8 S8.out
              clear CH b8 SK CRm
              go_wp2_with fail
              refine Calls.mono CR2.out ?_
              rintro e w9 ⟨rfl, rfl⟩
              clear CR2
              go_wp2_with (at_builtin; refine app_int rfl _ _ rfl _ _ rfl (S8.out.alloc _).up3 _ _ id rfl (by simp) (by simp; omega) ?_)
              intro ma2 mn2 mc2 w10 s10
              have e10 : mine.map (Value.int .i64) ++ [.int .i64 id] = (mine ++ [id]).map (Value.int .i64) := by simp
              rw [e10] at s10
              have ML2 : Hid ((mine ++ [id]).length ≤ i + 1) := by show _ ≤ _; simp; omega
              clear S8 e10
              generalize mine ++ [id] = M at *
              obtain rfl : mn2 = M.length := by
                obtain ⟨_, _, e⟩ := s10.shape
                rw [List.length_map] at e
                cases e
                rfl
              have SN : Hid (Sep w.heap.size w w10 (Tx t f x2 :: File f b d :: FreeR (.slice ua un uc) used :: RowR 3 (.slice ma2 M.length mc2) (M.map (Value.int .i64)) :: Blk q (.cells #[.int .i64 ak, .int .i64 ai, .int .u8 (akd.toNat : Int), .string sa] 38) :: [])) := s10.dn3
              have hMl := ML2.out
              clear s10 hid2 hidr hm3 hm4 hklz
              go_wp2
              go_loopg [23, 24] M.length (fun kx s23 s24 wr => ∃ (k : Nat) (ga : Option Addr) (gn gc : Nat), s23 = .slice ga gn gc ∧ s24 = .int .i64 k ∧ k ≤ M.length ∧ M.length - k ≤ kx ∧ Hid (Sep w.heap.size w wr (RunR (.slice ga gn gc) (onesL (M.take k)) :: Tx t f x2 :: File f b d :: FreeR (.slice ua un uc) used :: RowR 3 (.slice ma2 M.length mc2) (M.map (Value.int .i64)) :: Blk q (.cells #[.int .i64 ak, .int .i64 ai, .int .u8 (akd.toNat : Int), .string sa] 38) :: [])))
              case atStart => exact ⟨0, none, 0, 0, rfl, rfl, Nat.zero_le _, Nat.le_refl _, SN.out.addRunNil⟩
              case round =>
                obtain ⟨k, ga, gn, gc, rfl, rfl, hk2, hkk, SK⟩ := hrel
                clear SN
                by_cases hkl : k < M.length
                · have hklz : (k : Int) < (M.length : Int) := by omega
                  obtain ⟨r3, o3, hv3, hr3, hc3⟩ := SK.out.up4.introw.at hkl
                  subst hv3
                  have hfr := (AP2.out.me _).1 (getD_mem hkl)
                  have hwf : Wf (M.getD k 0) := by
                    have h1 := OK2.out.fs _ hfr
                    have h2 := OK2.out.pr
                    exact Wf.of_lt (by omega) (by omega)
                  have TN : Hid (onesL (M.take k) ++ [(M.getD k 0, M.getD k 0)] = onesL (M.take (k + 1))) := onesL_nx hkl
                  have hln : (onesL (M.take k)).length < 100000 := by simp [onesL]; omega
                  obtain ⟨mk, hmk⟩ : ∃ mk, M.getD k 0 = mk := ⟨_, rfl⟩
                  have HMK : Hid (M.getD k 0 = mk) := hmk
                  rw [hmk] at hc3 hfr hwf TN
                  clear hmk
                  have SKd : Hid (Sep w.heap.size w wr.drew (RunR (.slice ga gn gc) (onesL (M.take k)) :: Tx t f x2 :: File f b d :: FreeR (.slice ua un uc) used :: RowR 3 (.slice (some ⟨r3, o3, none⟩) M.length mc2) (M.map (Value.int .i64)) :: Blk q (.cells #[.int .i64 ak, .int .i64 ai, .int .u8 (akd.toNat : Int), .string sa] 38) :: [])) := SK.out.drew
                  have KA : ∀ ob, (wr.drew.alloc ob).cell? ⟨r3, o3 + k, none⟩ = some (.int .i64 mk) := fun ob => (World.cell?_alloc_lt (a := ⟨r3, o3 + k, none⟩) wr.drew ob hr3).trans hc3
                  have HS9 : Hid (∀ u ga9 gn9 gc9, Sep w.heap.size w u (RunR (.slice ga9 gn9 gc9) (onesL (M.take (k + 1))) :: Tx t f x2 :: File f b d :: FreeR (.slice ua un uc) used :: RowR 3 (.slice (some ⟨r3, o3, none⟩) M.length mc2) (M.map (Value.int .i64)) :: Blk q (.cells #[.int .i64 ak, .int .i64 ai, .int .u8 (akd.toNat : Int), .string sa] 38) :: []) → u.cell? ⟨r3, o3 + k, none⟩ = some (.int .i64 mk)) := fun u ga9 gn9 gc9 hu => by
                    obtain ⟨r4, o4, hv4, hr4, hc4⟩ := hu.up4.introw.at hkl
                    rw [HMK.out] at hc4
                    cases hv4
                    exact hc4
                  go_wp2_with fail
                  go_region_held3 (fun w' => w'.cell? ⟨r3, o3 + k, none⟩ = some (.int .i64 mk)) (first | assumption | exact hc3 | exact KA _) ((refine step_run rfl _ _ rfl _ _ rfl (SKd.out.alloc _) _ _ mk mk rfl (Cl.new _ _ _) hln ?_; intro ga2 gn2 gc2 w9 s9; rw [TN.out] at s9; have hS9 := HS9.out _ _ _ _ s9; have S9 : Hid _ := s9; clear s9))
                  have CFr0 := tfresh (Sep.up1 S9.out) hwf
                  rw [hfr] at CFr0
                  have CFr : Hid _ := CFr0
                  clear CFr0 SK SKd KA HS9 hr3 hc3 hln TN
                  go_wp2_with fail
                  refine Calls.mono CFr.out ?_
                  rintro e w10 ⟨rfl, b10⟩
                  have S10 : Hid _ := Sep.below S9.out b10
                  clear S9 b10 CFr
                  go_wp2
                  go_roundg (M.length - (k + 1))
                  case measure => omega
                  case rel => exact ⟨k + 1, ga2, gn2, gc2, rfl, by go_num, by omega, Nat.le_refl _, S10⟩
                · have hklz : ¬ (k : Int) < (M.length : Int) := by omega
                  obtain rfl : k = M.length := by omega
                  rw [List.take_length] at SK
                  obtain ⟨es, ec⟩ := AP2.out.sum OK2.out hrm
                  have hp2 := OK2.out.p2
                  have hpr := OK2.out.pr
                  have hfl := OK2.out.len
                  have hul := HUl.out
                  have CP : Hid _ := tpages SK.out.up1 hp2
                  obtain ⟨pz, hpz⟩ : ∃ z : Int, (x2.pages : Int) = z := ⟨_, rfl⟩
                  have hpz1 : 2 ≤ pz := by omega
                  have hpz2 : pz ≤ 16384 := by omega
                  rw [hpz] at CP es ec
                  clear hpz
                  have hwz : wrap64 (pz - 1) = pz - 1 := w64 (by omega) (by omega)
                  have SA : Hid (Sep w.heap.size w (wr.alloc (.cells #[.int .i64 2, .int .i64 (pz - 1)] 33)) (RunR (.slice ga gn gc) (onesL M) :: Tx t f x2 :: File f b d :: FreeR (.slice ua un uc) used :: RowR 3 (.slice ma2 M.length mc2) (M.map (Value.int .i64)) :: Blk q (.cells #[.int .i64 ak, .int .i64 ai, .int .u8 (akd.toNat : Int), .string sa] 38) :: [])) := SK.out.alloc _
                  have RN : Aside (Row encP 2 (wr.alloc (.cells #[.int .i64 2, .int .i64 (pz - 1)] 33)) (.slice (some ⟨wr.heap.size, 0, none⟩) 1 1) [(2, pz - 1)]) := row_one (Cl.new _ _ _)
                  have OL : Hid ((onesL M).length ≤ 1000) := by show _ ≤ _; simp [onesL]; omega
                  go_wp2_with fail
                  refine Calls.mono CP.out ?_
                  rintro e w10 ⟨rfl, rfl⟩
                  clear CP SK
                  go_wp2_with fail
                  generalize wr.alloc (.cells #[.int .i64 2, .int .i64 (pz - 1)] 33) = wq at *
                  generalize wr.heap.size = nq at *
                  have CFree : Hid (∀ u, Sep w.heap.size w u (RunR (.slice ga gn gc) (onesL M) :: Tx t f x2 :: File f b d :: FreeR (.slice ua un uc) used :: RowR 3 (.slice ma2 M.length mc2) (M.map (Value.int .i64)) :: Blk q (.cells #[.int .i64 ak, .int .i64 ai, .int .u8 (akd.toNat : Int), .string sa] 38) :: []) → Calls Try.prog 15 #[ptr t] u (GivesO u x2.free)) := fun u hu => tfree hu.up1 OK2.out.cn (by omega)
                  have C1 : Hid _ := CFree.out wq SA.out
                  refine Calls.mono C1.out ?_
                  rintro e w11 ⟨a11, n11, c11, rfl, r11, b11⟩
                  have S11 : Hid (Sep w.heap.size w w11 (RunR (.slice ga gn gc) (onesL M) :: Tx t f x2 :: File f b d :: FreeR (.slice ua un uc) used :: RowR 3 (.slice ma2 M.length mc2) (M.map (Value.int .i64)) :: Blk q (.cells #[.int .i64 ak, .int .i64 ai, .int .u8 (akd.toNat : Int), .string sa] 38) :: [])) := SA.out.below b11
                  have RN11 : Aside (Row encP 2 w11 (.slice (some ⟨nq, 0, none⟩) 1 1) [(2, pz - 1)]) := RN.out.below b11
                  have C2 : Hid _ := count_any _ _ w11 r11.row (by omega)
                  have c1b := cnt_le (nmL_cn x2.free)
                  have c2b := cnt_le (nmL_cn (onesL M))
                  have c3b := cnt_le (nmL_cn used)
                  have c4b := cnt_le (nmL_cn [(2, pz - 1)])
                  obtain ⟨c4, hc4⟩ : ∃ z, cntL (nmL [(2, pz - 1)]) = z := ⟨_, rfl⟩
                  have HC4 : Hid (cntL (nmL [(2, pz - 1)]) = c4) := hc4
                  rw [hc4] at ec c4b
                  obtain ⟨k1, hk1⟩ : ∃ z, cntL (nmL x2.free) = z := ⟨_, rfl⟩
                  obtain ⟨k2, hk2'⟩ : ∃ z, cntL (nmL (onesL M)) = z := ⟨_, rfl⟩
                  obtain ⟨k3, hk3⟩ : ∃ z, cntL (nmL used) = z := ⟨_, rfl⟩
                  rw [hk1, hk2', hk3] at ec
                  rw [hk1] at c1b C2
                  rw [hk2'] at c2b
                  rw [hk3] at c3b
                  have HK2 : Hid (cntL (nmL (onesL M)) = k2) := hk2'
                  have HK3 : Hid (cntL (nmL used) = k3) := hk3
                  clear C1 SA RN r11 b11 hc4 hk1 hk2' hk3
                  have hw1 : wrap64 (k1 + k2) = k1 + k2 := w64 (by omega) (by omega)
                  have hw2 : wrap64 (k1 + k2 + k3) = c4 := by rw [w64 (by omega) (by omega)]; omega
                  go_wp2_with fail
                  refine Calls.mono C2.out ?_
                  rintro e w12 ⟨rfl, b12⟩
                  have S12 : Hid (Sep w.heap.size w w12 (RunR (.slice ga gn gc) (onesL M) :: Tx t f x2 :: File f b d :: FreeR (.slice ua un uc) used :: RowR 3 (.slice ma2 M.length mc2) (M.map (Value.int .i64)) :: Blk q (.cells #[.int .i64 ak, .int .i64 ai, .int .u8 (akd.toNat : Int), .string sa] 38) :: [])) := S11.out.below b12
                  have RN12 : Aside (Row encP 2 w12 (.slice (some ⟨nq, 0, none⟩) 1 1) [(2, pz - 1)]) := RN11.out.below b12
                  have C3 := count_any _ _ w12 S12.out.run.own.row (by have := OL.out; omega)
                  rw [HK2.out] at C3
                  have C4 : Hid _ := C3
                  clear C2 C3 S11 RN11 b12
                  go_wp2_with fail
                  refine Calls.mono C4.out ?_
                  rintro e w13 ⟨rfl, b13⟩
                  have S13 : Hid (Sep w.heap.size w w13 (RunR (.slice ga gn gc) (onesL M) :: Tx t f x2 :: File f b d :: FreeR (.slice ua un uc) used :: RowR 3 (.slice ma2 M.length mc2) (M.map (Value.int .i64)) :: Blk q (.cells #[.int .i64 ak, .int .i64 ai, .int .u8 (akd.toNat : Int), .string sa] 38) :: [])) := S12.out.below b13
                  have RN13 : Aside (Row encP 2 w13 (.slice (some ⟨nq, 0, none⟩) 1 1) [(2, pz - 1)]) := RN12.out.below b13
                  have C5 := count_any _ _ w13 S13.out.up3.free.row (by omega)
                  rw [HK3.out] at C5
                  have C6 : Hid _ := C5
                  clear C4 C5 S12 RN12 b13
                  go_wp2_with fail
                  refine Calls.mono C6.out ?_
                  rintro e w14 ⟨rfl, b14⟩
                  have S14 : Hid (Sep w.heap.size w w14 (RunR (.slice ga gn gc) (onesL M) :: Tx t f x2 :: File f b d :: FreeR (.slice ua un uc) used :: RowR 3 (.slice ma2 M.length mc2) (M.map (Value.int .i64)) :: Blk q (.cells #[.int .i64 ak, .int .i64 ai, .int .u8 (akd.toNat : Int), .string sa] 38) :: [])) := S13.out.below b14
                  have RN14 : Aside (Row encP 2 w14 (.slice (some ⟨nq, 0, none⟩) 1 1) [(2, pz - 1)]) := RN13.out.below b14
                  have C7 : Hid _ := CFree.out w14 S14.out
                  clear C6 S13 RN13 b14
                  go_wp2_with fail
                  refine Calls.mono C7.out ?_
                  rintro e w15 ⟨a15, n15, c15, rfl, r15, b15⟩
                  have S15 : Hid (Sep w.heap.size w w15 (RunR (.slice ga gn gc) (onesL M) :: Tx t f x2 :: File f b d :: FreeR (.slice ua un uc) used :: RowR 3 (.slice ma2 M.length mc2) (M.map (Value.int .i64)) :: Blk q (.cells #[.int .i64 ak, .int .i64 ai, .int .u8 (akd.toNat : Int), .string sa] 38) :: [])) := S14.out.below b15
                  have RN15 : Aside (Row encP 2 w15 (.slice (some ⟨nq, 0, none⟩) 1 1) [(2, pz - 1)]) := RN14.out.below b15
                  have R15 : Aside (Row encP 2 w15 (.slice a15 n15 c15) x2.free) := r15.row
                  have C8 : Hid _ := union_o _ _ _ _ w15 S15.out.run.own.row S15.out.up3.free.row (by have := OL.out; omega)
                  clear C7 S14 RN14 r15 b15
                  go_wp2_with fail
                  refine Calls.mono C8.out ?_
                  rintro e w16 ⟨a16, n16, c16, rfl, r16, b16⟩
                  have S16 : Hid (Sep w.heap.size w w16 (RunR (.slice ga gn gc) (onesL M) :: Tx t f x2 :: File f b d :: FreeR (.slice ua un uc) used :: RowR 3 (.slice ma2 M.length mc2) (M.map (Value.int .i64)) :: Blk q (.cells #[.int .i64 ak, .int .i64 ai, .int .u8 (akd.toNat : Int), .string sa] 38) :: [])) := S15.out.below b16
                  have RN16 : Aside (Row encP 2 w16 (.slice (some ⟨nq, 0, none⟩) 1 1) [(2, pz - 1)]) := RN15.out.below b16
                  have C9 := union_o _ _ _ _ w16 (R15.out.below b16) r16.row (by have := OL.out; have := unL_length (onesL M) used; omega)
                  rw [es] at C9
                  have C10 : Hid _ := C9
                  clear C8 C9 S15 RN15 r16 b16 R15
                  go_wp2_with fail
                  refine Calls.mono C10.out ?_
                  rintro e w17 ⟨a17, n17, c17, rfl, r17, b17⟩
                  have S17 : Hid (Sep w.heap.size w w17 (RunR (.slice ga gn gc) (onesL M) :: Tx t f x2 :: File f b d :: FreeR (.slice ua un uc) used :: RowR 3 (.slice ma2 M.length mc2) (M.map (Value.int .i64)) :: Blk q (.cells #[.int .i64 ak, .int .i64 ai, .int .u8 (akd.toNat : Int), .string sa] 38) :: [])) := S16.out.below b17
                  have RN17 : Aside (Row encP 2 w17 (.slice (some ⟨nq, 0, none⟩) 1 1) [(2, pz - 1)]) := RN16.out.below b17
                  have R17 : Aside (Row encP 2 w17 (.slice a17 n17 c17) (nmL [(2, pz - 1)])) := r17.row
                  have C11 : Hid _ := norm_o _ _ w17 RN17.out (by simp)
                  clear C10 S16 RN16 r17 b17
                  go_wp2_with fail
                  refine Calls.mono C11.out ?_
                  rintro e w18 ⟨a18, n18, c18, rfl, r18, b18⟩
                  have S18 : Hid (Sep w.heap.size w w18 (RunR (.slice ga gn gc) (onesL M) :: Tx t f x2 :: File f b d :: FreeR (.slice ua un uc) used :: RowR 3 (.slice ma2 M.length mc2) (M.map (Value.int .i64)) :: Blk q (.cells #[.int .i64 ak, .int .i64 ai, .int .u8 (akd.toNat : Int), .string sa] 38) :: [])) := S17.out.below b18
                  have RN18 : Aside (Row encP 2 w18 (.slice (some ⟨nq, 0, none⟩) 1 1) [(2, pz - 1)]) := RN17.out.below b18
                  have hnl := nmL_length [(2, pz - 1)]
                  simp only [List.length_cons, List.length_nil] at hnl
                  have C12 := same_any _ _ _ _ w18 (R17.out.below b18) r18.row (by omega) (by omega)
                  rw [decide_eq_true (rfl : nmL [(2, pz - 1)] = nmL [(2, pz - 1)])] at C12
                  have C13 : Hid _ := C12
                  clear C11 C12 S17 RN17 r18 b18 R17
                  go_wp2_with fail
                  refine Calls.mono C13.out ?_
                  rintro e w19 ⟨rfl, b19⟩
                  have S19 : Hid (Sep w.heap.size w w19 (RunR (.slice ga gn gc) (onesL M) :: Tx t f x2 :: File f b d :: FreeR (.slice ua un uc) used :: RowR 3 (.slice ma2 M.length mc2) (M.map (Value.int .i64)) :: Blk q (.cells #[.int .i64 ak, .int .i64 ai, .int .u8 (akd.toNat : Int), .string sa] 38) :: [])) := S18.out.below b19
                  have RN19 : Aside (Row encP 2 w19 (.slice (some ⟨nq, 0, none⟩) 1 1) [(2, pz - 1)]) := RN18.out.below b19
                  have C14 := count_any _ _ w19 RN19.out (by simp)
                  rw [HC4.out] at C14
                  have C15 : Hid _ := C14
                  clear C13 C14 S18 RN18 b19
                  go_wp2_with fail
                  refine Calls.mono C15.out ?_
                  rintro e w20 ⟨rfl, b20⟩
                  have S20 : Hid (Sep w.heap.size w w20 (RunR (.slice ga gn gc) (onesL M) :: Tx t f x2 :: File f b d :: FreeR (.slice ua un uc) used :: RowR 3 (.slice ma2 M.length mc2) (M.map (Value.int .i64)) :: Blk q (.cells #[.int .i64 ak, .int .i64 ai, .int .u8 (akd.toNat : Int), .string sa] 38) :: [])) := S19.out.below b20
                  have C16 : Hid _ := ttaken S20.out.up1 (by have := CN2.out; omega)
                  clear C15 S19 RN19 b20
                  go_wp2_with fail
                  refine Calls.mono C16.out ?_
                  rintro e w21 ⟨v21, L21, rfl, hL21, _, hrow21, b21⟩
                  have hlen := AP2.out.taken hL21
                  obtain ⟨a21, c21, rfl⟩ : ∃ ao c, v21 = .slice ao M.length c := by
                    rcases hrow21.2 with ⟨h1, h2⟩ | ⟨g, cap, cur, h1, _⟩
                    · exact ⟨none, 0, by rw [h1, ← hlen, h2]⟩
                    · exact ⟨_, _, by rw [h1, hlen]⟩
                  have S21 : Hid (Sep w.heap.size w w21 (Tx t f x2 :: File f b d :: FreeR (.slice ua un uc) used :: RowR 3 (.slice ma2 M.length mc2) (M.map (Value.int .i64)) :: [])) := (S20.out.below b21).drop.up4.drop
                  clear C16 S20 hL21 hrow21 b21 hlen
                  go_wp2
                  go_roundg (l.length - (i + 1))
                  case measure => omega
                  case rel => exact ⟨i + 1, x2, M, ma2, M.length, mc2, rfl, by go_num, by omega, Nat.le_refl _, S21, OK2, CN2, AP2, ML2⟩
        · obtain ⟨he2, hx2, hfree, hpg⟩ := full_room OKR.out he
          rw [he2, hx2] at CA
          rw [hx2] at OK2 CN2
          have AP2 : Hid (Apart x mine used) := APR
          have ML2 : Hid (mine.length ≤ i + 1) := Nat.le_succ_of_le hml
          obtain ⟨idz, hidz⟩ : ∃ z, (x.alloc d.room).1.1 = z := ⟨_, rfl⟩
          rw [hidz] at CA
          clear hidz he he2 hx2 S1
          go_wp2_with fail
          generalize wr.alloc (.cells #[.int .i64 ak, .int .i64 ai, .int .u8 (akd.toNat : Int), .string sa] 38) = wa at *
          generalize wr.heap.size = q at *
          refine Calls.mono CA.out ?_
          rintro e w7 ⟨rfl, s7⟩
          have S7 : Hid (Sep w.heap.size w w7 (Tx t f x :: File f b d :: FreeR (.slice ua un uc) used :: RowR 3 (.slice ma mine.length mc) (mine.map (Value.int .i64)) :: Blk q (.cells #[.int .i64 ak, .int .i64 ai, .int .u8 (akd.toNat : Int), .string sa] 38) :: [])) := s7
          have CFr : Hid _ := tfree s7 OKR.out.cn (by rw [hfree]; decide)
          rw [hfree] at CFr
          clear CA s7 x0c x1c x2c x3c
          go_wp2_with fail
          refine Calls.mono CFr.out ?_
          rintro e w8 ⟨a8, n8, c8, rfl, r8, b8⟩
          have S8 : Hid (Sep w.heap.size w w8 (Tx t f x :: File f b d :: FreeR (.slice ua un uc) used :: RowR 3 (.slice ma mine.length mc) (mine.map (Value.int .i64)) :: Blk q (.cells #[.int .i64 ak, .int .i64 ai, .int .u8 (akd.toNat : Int), .string sa] 38) :: [])) := S7.out.below b8
          have CC0 := count_any _ _ w8 r8.row (by decide)
          rw [show cntL (nmL []) = 0 from rfl] at CC0
          have CC : Hid _ := CC0
          clear CFr CC0 r8 b8 S7
          go_wp2_with fail
          refine Calls.mono CC.out ?_
          rintro e w9 ⟨rfl, b9⟩
          have S9 : Hid (Sep w.heap.size w w9 (Tx t f x :: File f b d :: FreeR (.slice ua un uc) used :: RowR 3 (.slice ma mine.length mc) (mine.map (Value.int .i64)) :: Blk q (.cells #[.int .i64 ak, .int .i64 ai, .int .u8 (akd.toNat : Int), .string sa] 38) :: [])) := S8.out.below b9
          have CP0 := tpages S9.out OKR.out.p2
          rw [hpg] at CP0
          have CP : Hid _ := CP0
          have CRm : Hid _ := room_f S9.out.up1
          clear CC CP0 b9 S8
          generalize (d.room : Int) = rmz at *
          go_wp2_with fail
          refine Calls.mono CP.out ?_
          rintro e w10 ⟨rfl, rfl⟩
          clear CP
          go_wp2_with fail
          refine Calls.mono CRm.out ?_
          rintro e w10 ⟨rfl, rfl⟩
          clear CRm
          obtain ⟨M, hM⟩ : ∃ z, z = mine := ⟨_, rfl⟩
          obtain ⟨ma2, hma2⟩ : ∃ z, z = ma := ⟨_, rfl⟩
          obtain ⟨mc2, hmc2⟩ : ∃ z, z = mc := ⟨_, rfl⟩
          obtain ⟨x2, hxx2⟩ : ∃ z, z = x := ⟨_, rfl⟩
          subst hM hma2 hmc2 hxx2
          have SN : Hid (Sep w.heap.size w w9 (Tx t f x2 :: File f b d :: FreeR (.slice ua un uc) used :: RowR 3 (.slice ma2 M.length mc2) (M.map (Value.int .i64)) :: Blk q (.cells #[.int .i64 ak, .int .i64 ai, .int .u8 (akd.toNat : Int), .string sa] 38) :: [])) := S9
          have hMl := ML2.out
          clear S9
          go_wp2
          go_loopg [23, 24] M.length (fun kx s23 s24 wr => ∃ (k : Nat) (ga : Option Addr) (gn gc : Nat), s23 = .slice ga gn gc ∧ s24 = .int .i64 k ∧ k ≤ M.length ∧ M.length - k ≤ kx ∧ Hid (Sep w.heap.size w wr (RunR (.slice ga gn gc) (onesL (M.take k)) :: Tx t f x2 :: File f b d :: FreeR (.slice ua un uc) used :: RowR 3 (.slice ma2 M.length mc2) (M.map (Value.int .i64)) :: Blk q (.cells #[.int .i64 ak, .int .i64 ai, .int .u8 (akd.toNat : Int), .string sa] 38) :: [])))
          case atStart => exact ⟨0, none, 0, 0, rfl, rfl, Nat.zero_le _, Nat.le_refl _, SN.out.addRunNil⟩
          case round =>
            obtain ⟨k, ga, gn, gc, rfl, rfl, hk2, hkk, SK⟩ := hrel
            clear SN
            by_cases hkl : k < M.length
            · have hklz : (k : Int) < (M.length : Int) := by omega
              obtain ⟨r3, o3, hv3, hr3, hc3⟩ := SK.out.up4.introw.at hkl
              subst hv3
              have hfr := (AP2.out.me _).1 (getD_mem hkl)
              have hwf : Wf (M.getD k 0) := by
                have h1 := OK2.out.fs _ hfr
                have h2 := OK2.out.pr
                exact Wf.of_lt (by omega) (by omega)
              have TN : Hid (onesL (M.take k) ++ [(M.getD k 0, M.getD k 0)] = onesL (M.take (k + 1))) := onesL_nx hkl
              have hln : (onesL (M.take k)).length < 100000 := by simp [onesL]; omega
              obtain ⟨mk, hmk⟩ : ∃ mk, M.getD k 0 = mk := ⟨_, rfl⟩
              have HMK : Hid (M.getD k 0 = mk) := hmk
              rw [hmk] at hc3 hfr hwf TN
              clear hmk
              have SKd : Hid (Sep w.heap.size w wr.drew (RunR (.slice ga gn gc) (onesL (M.take k)) :: Tx t f x2 :: File f b d :: FreeR (.slice ua un uc) used :: RowR 3 (.slice (some ⟨r3, o3, none⟩) M.length mc2) (M.map (Value.int .i64)) :: Blk q (.cells #[.int .i64 ak, .int .i64 ai, .int .u8 (akd.toNat : Int), .string sa] 38) :: [])) := SK.out.drew
              have KA : ∀ ob, (wr.drew.alloc ob).cell? ⟨r3, o3 + k, none⟩ = some (.int .i64 mk) := fun ob => (World.cell?_alloc_lt (a := ⟨r3, o3 + k, none⟩) wr.drew ob hr3).trans hc3
              have HS9 : Hid (∀ u ga9 gn9 gc9, Sep w.heap.size w u (RunR (.slice ga9 gn9 gc9) (onesL (M.take (k + 1))) :: Tx t f x2 :: File f b d :: FreeR (.slice ua un uc) used :: RowR 3 (.slice (some ⟨r3, o3, none⟩) M.length mc2) (M.map (Value.int .i64)) :: Blk q (.cells #[.int .i64 ak, .int .i64 ai, .int .u8 (akd.toNat : Int), .string sa] 38) :: []) → u.cell? ⟨r3, o3 + k, none⟩ = some (.int .i64 mk)) := fun u ga9 gn9 gc9 hu => by
                obtain ⟨r4, o4, hv4, hr4, hc4⟩ := hu.up4.introw.at hkl
                rw [HMK.out] at hc4
                cases hv4
                exact hc4
              go_wp2_with fail
              go_region_held3 (fun w' => w'.cell? ⟨r3, o3 + k, none⟩ = some (.int .i64 mk)) (first | assumption | exact hc3 | exact KA _) ((refine step_run rfl _ _ rfl _ _ rfl (SKd.out.alloc _) _ _ mk mk rfl (Cl.new _ _ _) hln ?_; intro ga2 gn2 gc2 w9 s9; rw [TN.out] at s9; have hS9 := HS9.out _ _ _ _ s9; have S9 : Hid _ := s9; clear s9))
              have CFr0 := tfresh (Sep.up1 S9.out) hwf
              rw [hfr] at CFr0
              have CFr : Hid _ := CFr0
              clear CFr0 SK SKd KA HS9 hr3 hc3 hln TN
              go_wp2_with fail
              refine Calls.mono CFr.out ?_
              rintro e w10 ⟨rfl, b10⟩
              have S10 : Hid _ := Sep.below S9.out b10
              clear S9 b10 CFr
              go_wp2
              go_roundg (M.length - (k + 1))
              case measure => omega
              case rel => exact ⟨k + 1, ga2, gn2, gc2, rfl, by go_num, by omega, Nat.le_refl _, S10⟩
            · have hklz : ¬ (k : Int) < (M.length : Int) := by omega
              obtain rfl : k = M.length := by omega
              rw [List.take_length] at SK
              obtain ⟨es, ec⟩ := AP2.out.sum OK2.out hrm
              have hp2 := OK2.out.p2
              have hpr := OK2.out.pr
              have hfl := OK2.out.len
              have hul := HUl.out
              have CP : Hid _ := tpages SK.out.up1 hp2
              obtain ⟨pz, hpz⟩ : ∃ z : Int, (x2.pages : Int) = z := ⟨_, rfl⟩
              have hpz1 : 2 ≤ pz := by omega
              have hpz2 : pz ≤ 16384 := by omega
              rw [hpz] at CP es ec
              clear hpz
              have hwz : wrap64 (pz - 1) = pz - 1 := w64 (by omega) (by omega)
              have SA : Hid (Sep w.heap.size w (wr.alloc (.cells #[.int .i64 2, .int .i64 (pz - 1)] 33)) (RunR (.slice ga gn gc) (onesL M) :: Tx t f x2 :: File f b d :: FreeR (.slice ua un uc) used :: RowR 3 (.slice ma2 M.length mc2) (M.map (Value.int .i64)) :: Blk q (.cells #[.int .i64 ak, .int .i64 ai, .int .u8 (akd.toNat : Int), .string sa] 38) :: [])) := SK.out.alloc _
              have RN : Aside (Row encP 2 (wr.alloc (.cells #[.int .i64 2, .int .i64 (pz - 1)] 33)) (.slice (some ⟨wr.heap.size, 0, none⟩) 1 1) [(2, pz - 1)]) := row_one (Cl.new _ _ _)
              have OL : Hid ((onesL M).length ≤ 1000) := by show _ ≤ _; simp [onesL]; omega
              go_wp2_with fail
              refine Calls.mono CP.out ?_
              rintro e w10 ⟨rfl, rfl⟩
              clear CP SK
              go_wp2_with fail
              generalize wr.alloc (.cells #[.int .i64 2, .int .i64 (pz - 1)] 33) = wq at *
              generalize wr.heap.size = nq at *
              have CFree : Hid (∀ u, Sep w.heap.size w u (RunR (.slice ga gn gc) (onesL M) :: Tx t f x2 :: File f b d :: FreeR (.slice ua un uc) used :: RowR 3 (.slice ma2 M.length mc2) (M.map (Value.int .i64)) :: Blk q (.cells #[.int .i64 ak, .int .i64 ai, .int .u8 (akd.toNat : Int), .string sa] 38) :: []) → Calls Try.prog 15 #[ptr t] u (GivesO u x2.free)) := fun u hu => tfree hu.up1 OK2.out.cn (by omega)
              have C1 : Hid _ := CFree.out wq SA.out
              refine Calls.mono C1.out ?_
              rintro e w11 ⟨a11, n11, c11, rfl, r11, b11⟩
              have S11 : Hid (Sep w.heap.size w w11 (RunR (.slice ga gn gc) (onesL M) :: Tx t f x2 :: File f b d :: FreeR (.slice ua un uc) used :: RowR 3 (.slice ma2 M.length mc2) (M.map (Value.int .i64)) :: Blk q (.cells #[.int .i64 ak, .int .i64 ai, .int .u8 (akd.toNat : Int), .string sa] 38) :: [])) := SA.out.below b11
              have RN11 : Aside (Row encP 2 w11 (.slice (some ⟨nq, 0, none⟩) 1 1) [(2, pz - 1)]) := RN.out.below b11
              have C2 : Hid _ := count_any _ _ w11 r11.row (by omega)
              have c1b := cnt_le (nmL_cn x2.free)
              have c2b := cnt_le (nmL_cn (onesL M))
              have c3b := cnt_le (nmL_cn used)
              have c4b := cnt_le (nmL_cn [(2, pz - 1)])
              obtain ⟨c4, hc4⟩ : ∃ z, cntL (nmL [(2, pz - 1)]) = z := ⟨_, rfl⟩
              have HC4 : Hid (cntL (nmL [(2, pz - 1)]) = c4) := hc4
              rw [hc4] at ec c4b
              obtain ⟨k1, hk1⟩ : ∃ z, cntL (nmL x2.free) = z := ⟨_, rfl⟩
              obtain ⟨k2, hk2'⟩ : ∃ z, cntL (nmL (onesL M)) = z := ⟨_, rfl⟩
              obtain ⟨k3, hk3⟩ : ∃ z, cntL (nmL used) = z := ⟨_, rfl⟩
              rw [hk1, hk2', hk3] at ec
              rw [hk1] at c1b C2
              rw [hk2'] at c2b
              rw [hk3] at c3b
              have HK2 : Hid (cntL (nmL (onesL M)) = k2) := hk2'
              have HK3 : Hid (cntL (nmL used) = k3) := hk3
              clear C1 SA RN r11 b11 hc4 hk1 hk2' hk3
              have hw1 : wrap64 (k1 + k2) = k1 + k2 := w64 (by omega) (by omega)
              have hw2 : wrap64 (k1 + k2 + k3) = c4 := by rw [w64 (by omega) (by omega)]; omega
              go_wp2_with fail
              refine Calls.mono C2.out ?_
              rintro e w12 ⟨rfl, b12⟩
              have S12 : Hid (Sep w.heap.size w w12 (RunR (.slice ga gn gc) (onesL M) :: Tx t f x2 :: File f b d :: FreeR (.slice ua un uc) used :: RowR 3 (.slice ma2 M.length mc2) (M.map (Value.int .i64)) :: Blk q (.cells #[.int .i64 ak, .int .i64 ai, .int .u8 (akd.toNat : Int), .string sa] 38) :: [])) := S11.out.below b12
              have RN12 : Aside (Row encP 2 w12 (.slice (some ⟨nq, 0, none⟩) 1 1) [(2, pz - 1)]) := RN11.out.below b12
              have C3 := count_any _ _ w12 S12.out.run.own.row (by have := OL.out; omega)
              rw [HK2.out] at C3
              have C4 : Hid _ := C3
              clear C2 C3 S11 RN11 b12
              go_wp2_with fail
              refine Calls.mono C4.out ?_
              rintro e w13 ⟨rfl, b13⟩
              have S13 : Hid (Sep w.heap.size w w13 (RunR (.slice ga gn gc) (onesL M) :: Tx t f x2 :: File f b d :: FreeR (.slice ua un uc) used :: RowR 3 (.slice ma2 M.length mc2) (M.map (Value.int .i64)) :: Blk q (.cells #[.int .i64 ak, .int .i64 ai, .int .u8 (akd.toNat : Int), .string sa] 38) :: [])) := S12.out.below b13
              have RN13 : Aside (Row encP 2 w13 (.slice (some ⟨nq, 0, none⟩) 1 1) [(2, pz - 1)]) := RN12.out.below b13
              have C5 := count_any _ _ w13 S13.out.up3.free.row (by omega)
              rw [HK3.out] at C5
              have C6 : Hid _ := C5
              clear C4 C5 S12 RN12 b13
              go_wp2_with fail
              refine Calls.mono C6.out ?_
              rintro e w14 ⟨rfl, b14⟩
              have S14 : Hid (Sep w.heap.size w w14 (RunR (.slice ga gn gc) (onesL M) :: Tx t f x2 :: File f b d :: FreeR (.slice ua un uc) used :: RowR 3 (.slice ma2 M.length mc2) (M.map (Value.int .i64)) :: Blk q (.cells #[.int .i64 ak, .int .i64 ai, .int .u8 (akd.toNat : Int), .string sa] 38) :: [])) := S13.out.below b14
              have RN14 : Aside (Row encP 2 w14 (.slice (some ⟨nq, 0, none⟩) 1 1) [(2, pz - 1)]) := RN13.out.below b14
              have C7 : Hid _ := CFree.out w14 S14.out
              clear C6 S13 RN13 b14
              go_wp2_with fail
              refine Calls.mono C7.out ?_
              rintro e w15 ⟨a15, n15, c15, rfl, r15, b15⟩
              have S15 : Hid (Sep w.heap.size w w15 (RunR (.slice ga gn gc) (onesL M) :: Tx t f x2 :: File f b d :: FreeR (.slice ua un uc) used :: RowR 3 (.slice ma2 M.length mc2) (M.map (Value.int .i64)) :: Blk q (.cells #[.int .i64 ak, .int .i64 ai, .int .u8 (akd.toNat : Int), .string sa] 38) :: [])) := S14.out.below b15
              have RN15 : Aside (Row encP 2 w15 (.slice (some ⟨nq, 0, none⟩) 1 1) [(2, pz - 1)]) := RN14.out.below b15
              have R15 : Aside (Row encP 2 w15 (.slice a15 n15 c15) x2.free) := r15.row
              have C8 : Hid _ := union_o _ _ _ _ w15 S15.out.run.own.row S15.out.up3.free.row (by have := OL.out; omega)
              clear C7 S14 RN14 r15 b15
              go_wp2_with fail
              refine Calls.mono C8.out ?_
              rintro e w16 ⟨a16, n16, c16, rfl, r16, b16⟩
              have S16 : Hid (Sep w.heap.size w w16 (RunR (.slice ga gn gc) (onesL M) :: Tx t f x2 :: File f b d :: FreeR (.slice ua un uc) used :: RowR 3 (.slice ma2 M.length mc2) (M.map (Value.int .i64)) :: Blk q (.cells #[.int .i64 ak, .int .i64 ai, .int .u8 (akd.toNat : Int), .string sa] 38) :: [])) := S15.out.below b16
              have RN16 : Aside (Row encP 2 w16 (.slice (some ⟨nq, 0, none⟩) 1 1) [(2, pz - 1)]) := RN15.out.below b16
              have C9 := union_o _ _ _ _ w16 (R15.out.below b16) r16.row (by have := OL.out; have := unL_length (onesL M) used; omega)
              rw [es] at C9
              have C10 : Hid _ := C9
              clear C8 C9 S15 RN15 r16 b16 R15
              go_wp2_with fail
              refine Calls.mono C10.out ?_
              rintro e w17 ⟨a17, n17, c17, rfl, r17, b17⟩
              have S17 : Hid (Sep w.heap.size w w17 (RunR (.slice ga gn gc) (onesL M) :: Tx t f x2 :: File f b d :: FreeR (.slice ua un uc) used :: RowR 3 (.slice ma2 M.length mc2) (M.map (Value.int .i64)) :: Blk q (.cells #[.int .i64 ak, .int .i64 ai, .int .u8 (akd.toNat : Int), .string sa] 38) :: [])) := S16.out.below b17
              have RN17 : Aside (Row encP 2 w17 (.slice (some ⟨nq, 0, none⟩) 1 1) [(2, pz - 1)]) := RN16.out.below b17
              have R17 : Aside (Row encP 2 w17 (.slice a17 n17 c17) (nmL [(2, pz - 1)])) := r17.row
              have C11 : Hid _ := norm_o _ _ w17 RN17.out (by simp)
              clear C10 S16 RN16 r17 b17
              go_wp2_with fail
              refine Calls.mono C11.out ?_
              rintro e w18 ⟨a18, n18, c18, rfl, r18, b18⟩
              have S18 : Hid (Sep w.heap.size w w18 (RunR (.slice ga gn gc) (onesL M) :: Tx t f x2 :: File f b d :: FreeR (.slice ua un uc) used :: RowR 3 (.slice ma2 M.length mc2) (M.map (Value.int .i64)) :: Blk q (.cells #[.int .i64 ak, .int .i64 ai, .int .u8 (akd.toNat : Int), .string sa] 38) :: [])) := S17.out.below b18
              have RN18 : Aside (Row encP 2 w18 (.slice (some ⟨nq, 0, none⟩) 1 1) [(2, pz - 1)]) := RN17.out.below b18
              have hnl := nmL_length [(2, pz - 1)]
              simp only [List.length_cons, List.length_nil] at hnl
              have C12 := same_any _ _ _ _ w18 (R17.out.below b18) r18.row (by omega) (by omega)
              rw [decide_eq_true (rfl : nmL [(2, pz - 1)] = nmL [(2, pz - 1)])] at C12
              have C13 : Hid _ := C12
              clear C11 C12 S17 RN17 r18 b18 R17
              go_wp2_with fail
              refine Calls.mono C13.out ?_
              rintro e w19 ⟨rfl, b19⟩
              have S19 : Hid (Sep w.heap.size w w19 (RunR (.slice ga gn gc) (onesL M) :: Tx t f x2 :: File f b d :: FreeR (.slice ua un uc) used :: RowR 3 (.slice ma2 M.length mc2) (M.map (Value.int .i64)) :: Blk q (.cells #[.int .i64 ak, .int .i64 ai, .int .u8 (akd.toNat : Int), .string sa] 38) :: [])) := S18.out.below b19
              have RN19 : Aside (Row encP 2 w19 (.slice (some ⟨nq, 0, none⟩) 1 1) [(2, pz - 1)]) := RN18.out.below b19
              have C14 := count_any _ _ w19 RN19.out (by simp)
              rw [HC4.out] at C14
              have C15 : Hid _ := C14
              clear C13 C14 S18 RN18 b19
              go_wp2_with fail
              refine Calls.mono C15.out ?_
              rintro e w20 ⟨rfl, b20⟩
              have S20 : Hid (Sep w.heap.size w w20 (RunR (.slice ga gn gc) (onesL M) :: Tx t f x2 :: File f b d :: FreeR (.slice ua un uc) used :: RowR 3 (.slice ma2 M.length mc2) (M.map (Value.int .i64)) :: Blk q (.cells #[.int .i64 ak, .int .i64 ai, .int .u8 (akd.toNat : Int), .string sa] 38) :: [])) := S19.out.below b20
              have C16 : Hid _ := ttaken S20.out.up1 (by have := CN2.out; omega)
              clear C15 S19 RN19 b20
              go_wp2_with fail
              refine Calls.mono C16.out ?_
              rintro e w21 ⟨v21, L21, rfl, hL21, _, hrow21, b21⟩
              have hlen := AP2.out.taken hL21
              obtain ⟨a21, c21, rfl⟩ : ∃ ao c, v21 = .slice ao M.length c := by
                rcases hrow21.2 with ⟨h1, h2⟩ | ⟨g, cap, cur, h1, _⟩
                · exact ⟨none, 0, by rw [h1, ← hlen, h2]⟩
                · exact ⟨_, _, by rw [h1, hlen]⟩
              have S21 : Hid (Sep w.heap.size w w21 (Tx t f x2 :: File f b d :: FreeR (.slice ua un uc) used :: RowR 3 (.slice ma2 M.length mc2) (M.map (Value.int .i64)) :: [])) := (S20.out.below b21).drop.up4.drop
              clear C16 S20 hL21 hrow21 b21 hlen
              go_wp2
              go_roundg (l.length - (i + 1))
              case measure => omega
              case rel => exact ⟨i + 1, x2, M, ma2, M.length, mc2, rfl, by go_num, by omega, Nat.le_refl _, S21, OK2, CN2, AP2, ML2⟩
    · have hilz : ¬ (i : Int) < (l.length : Int) := by omega
      obtain rfl : i = l.length := by omega
      have BR : Hid (Below w.heap.size w wr) := SR.out.bel
      clear SR OKR CNR APR ML
      go_wp2
      go_ret
      exact ⟨rfl, BR.out⟩

end Go.Proofs.Ytnngfkjbbedkpaa

/-
  The walk of the law ChainDoes.
-/
import Derived.Test.YtnjnggjbeklmpaaGreatDoorChAct
import Derived.Deep.DeepCutAuto
import Derived.BigQuiet
namespace Go.Proofs.YtnjnggjbeklmpaaGreatDoor
open Go.Shelf Go.RowKit Go.Lib Go.Sort
set_option linter.unusedVariables false

set_option maxHeartbeats 16000000 in
set_option maxRecDepth 100000 in
theorem chainDoes (n : Int) (v : Value) (l : List C9) (w : World) (T : Tab w) (hn : -9223372036854775808 ≤ n ∧ n ≤ 9223372036854775807) (h : ActsR9 w v l) : Calls Tryz.prog 3 #[.int .i64 n, v] w fun e w' => e = .returned (.bool true) ∧ Below w.heap.size w w' := by
  have CW : Hid _ := works_any w
  have TS : Hid (Tabs w.heap.size w) := tabs_of T
  obtain ⟨ao, cap, rfl, hrow⟩ := h.row
  have HA : Hid (ActsR9 w (.slice ao l.length cap) l) := h
  clear h hrow T hn
  by_cases hn3 : 40 < n
  · go_enter Tryz.func3, Tryz.ntmps3
    go_wp2_with fail
    refine Calls.mono CW.out ?_
    rintro e w1 ⟨rfl, b1⟩
    have B1 : Hid (Below w.heap.size w w1) := b1
    clear b1 CW
    go_wp2
    go_ret
    exact ⟨rfl, B1.out⟩
  by_cases hl3 : 100 < l.length
  · have hlz : (100 : Int) < (l.length : Int) := by omega
    go_enter Tryz.func3, Tryz.ntmps3
    go_wp2_with fail
    refine Calls.mono CW.out ?_
    rintro e w1 ⟨rfl, b1⟩
    have B1 : Hid (Below w.heap.size w w1) := b1
    clear b1 CW
    go_wp2
    go_ret
    exact ⟨rfl, B1.out⟩
  have hlz : ¬ (100 : Int) < (l.length : Int) := by omega
  have HN1 : Hid ((Dk.new n).sure.length ≤ 1000) := new_len (by omega)
  go_enter Tryz.func3, Tryz.ntmps3
  go_wp2_with fail
  refine Calls.mono CW.out ?_
  rintro e w1 ⟨rfl, b1⟩
  have CN : Hid _ := new_s n (Sep.nil b1.size b1)
  clear b1 CW
  go_wp2_with fail
  refine Calls.mono CN.out ?_
  rintro e w2 ⟨b, rfl, s2⟩
  have CF : Hid _ := new_f s2
  clear s2 CN
  go_wp2_with fail
  refine Calls.mono CF.out ?_
  rintro e w3 ⟨f, rfl, s3⟩
  have CN2 : Hid _ := new_rs n s3
  clear s3 CF
  go_wp2_with fail
  refine Calls.mono CN2.out ?_
  rintro e w4 ⟨c, rfl, s4⟩
  have S0 : Hid (Sep w.heap.size w (w4.alloc (.cells #[ptr c] 32)) [File f b (Dk.new n), RFile w4.heap.size c (Dk.new n)]) := (s4.addBlk (rfileO c)).up1.join.up1
  clear s4 CN2
  go_wp2
  generalize w4.alloc (.cells #[ptr c] 32) = w5 at *
  generalize w4.heap.size = g at *
  go_loopg [10] l.length (fun gk s10 wr => ∃ (t : Nat) (d : Dk), s10 = .int .i64 t ∧ t ≤ l.length ∧ l.length - t ≤ gk ∧ Hid (d.pend.length ≤ 101 * t) ∧ Hid (d.sure.length ≤ 1000) ∧ Aside (Sep w.heap.size w wr [File f b d, RFile g c d]))
  case atStart => exact ⟨0, Dk.new n, rfl, Nat.zero_le _, Nat.le_refl _, Nat.le_refl _, HN1, S0.out⟩
  case round =>
    clear S0 HN1
    obtain ⟨t, d, rfl, ht, hgt, HI, HZ, S⟩ := hrel
    by_cases htl : t < l.length
    · have htz : (t : Int) < (l.length : Int) := by omega
      obtain ⟨r, o, rfl, hr, x0, x1, x2, x3, x4, rL, rI, hsz, hi63⟩ := HA.out.at S.out.bel (Nat.le_refl _) htl
      obtain ⟨A, hA⟩ : ∃ A, l.getD t c9 = A := ⟨_, rfl⟩
      rw [hA] at x0 x1 x2 x3 x4 rL rI hsz hi63
      clear hA
      obtain ⟨ak, lv, lL, iv, lI, ah, sa⟩ := A
      dsimp only at x0 x1 x2 x3 x4 rL rI hsz hi63
      obtain ⟨la, lc, rfl, _⟩ := id rL
      obtain ⟨ia, ic, rfl, _⟩ := id rI
      have RL : Aside (Row encP 2 w (.slice la lL.length lc) lL) := rL
      have RI : Aside (IntRow w (.slice ia lI.length ic) lI) := rI
      clear rL rI
      have SZ : Hid (sa.size ≤ maxLen) := hsz
      have S1 : Hid (Sep w.heap.size w (wr.alloc (.cells #[.int .i64 ak, .slice la lL.length lc, .slice ia lI.length ic, .int .i64 ah, .string sa] 36)) [Blk wr.heap.size (.cells #[.int .i64 ak, .slice la lL.length lc, .slice ia lI.length ic, .int .i64 ah, .string sa] 36), File f b d, RFile g c d]) := S.out.addBlk (.cells #[.int .i64 ak, .slice la lL.length lc, .slice ia lI.length ic, .int .i64 ah, .string sa] 36)
      unfold maxLen at hsz
      by_cases hL1 : 100 < lL.length
      · have z1 : (100 : Int) < (lL.length : Int) := by omega
        go_wp2
        go_ret
        exact ⟨rfl, S1.out.bel⟩
      have z1 : ¬ (100 : Int) < (lL.length : Int) := by omega
      by_cases hI1 : 100 < lI.length
      · have z2 : (100 : Int) < (lI.length : Int) := by omega
        go_wp2
        go_ret
        exact ⟨rfl, S1.out.bel⟩
      have z2 : ¬ (100 : Int) < (lI.length : Int) := by omega
      by_cases hs3 : 300 < sa.size
      · have z3 : (300 : Int) < (sa.size : Int) := by omega
        go_wp2
        go_ret
        exact ⟨rfl, S1.out.bel⟩
      have z3 : ¬ (300 : Int) < (sa.size : Int) := by omega
      go_upto_region 16 with fail
      generalize wr.alloc (.cells #[.int .i64 ak, .slice la lL.length lc, .slice ia lI.length ic, .int .i64 ah, .string sa] 36) = wa at *
      generalize wr.heap.size = q at *
      obtain ⟨a0c, a1c, a2c, a3c, a4c, ltq⟩ := act9_cells S1.out.blk
      clear x0 x1 x2 x3 x4 hr S
      by_cases hk0 : Int.tmod ak 4 = 0
      · as_aux_lemma =>
          have CR0 := cwrite_f normOk TS.out S1.out.up1 _ lL (RL.out.below S1.out.bel) ia lI.length ic lI (fun u d' hu => RI.out.below hu.bel (Nat.le_refl _)) (by omega) (by omega) (by have := HI.out; omega)
          have CR1 := fun u (hu : Sep w.heap.size w u [Blk q (.cells #[.int .i64 ak, .slice la lL.length lc, .slice ia lI.length ic, .int .i64 ah, .string sa] 36), File f b (d.cw lL lI).2, RFile g c d]) => rwrite_f hu.up2 _ lL (RL.out.below hu.bel) ia lI.length ic lI (fun u d' hu => RI.out.below hu.bel (Nat.le_refl _)) (by omega) (by omega) (by have := HI.out; omega)
          have I2 : Hid ((d.cw lL lI).2.pend.length ≤ 101 * (t + 1)) := by have h1 := (d.cw_turn lL lI).2; have h2 := HI.out; show _ ≤ _; omega
          have Z2 : Hid ((d.cw lL lI).2.sure.length ≤ 1000) := by show _ ≤ _; rw [(d.cw_turn lL lI).1]; exact HZ.out
          generalize d.cw lL lI = cw at CR0 CR1 I2 Z2
          obtain ⟨⟨x, er⟩, d2⟩ := cw
          dsimp only at CR0 CR1 I2 Z2
          have CR : Hid _ := CR0
          have CRb : Hid _ := CR1
          clear CR0 CR1
          go_wp2_with fail
          refine Calls.mono CR.out ?_
          rintro e w5 ⟨rfl, s5⟩
          have S5 : Hid (Sep w.heap.size w w5 [Blk q (.cells #[.int .i64 ak, .slice la lL.length lc, .slice ia lI.length ic, .int .i64 ah, .string sa] 36), File f b d2, RFile g c d]) := s5.up1
          clear s5 CR a0c a1c a2c a3c a4c ltq S1
          obtain ⟨_, a1c, a2c, a3c, a4c, ltq⟩ := act9_cells S5.out.blk
          have CR2 : Hid _ := CRb.out w5 S5.out
          clear CRb
          go_wp2_with fail
          refine Calls.mono CR2.out ?_
          rintro e w6 ⟨rfl, s6⟩
          have S6 : Hid (Sep w.heap.size w w6 [Blk q (.cells #[.int .i64 ak, .slice la lL.length lc, .slice ia lI.length ic, .int .i64 ah, .string sa] 36), File f b d2, RFile g c d2]) := s6.dn2
          clear s6 CR2 S5 a1c a2c a3c a4c ltq
          go_wp2
          go_roundg (l.length - (t + 1))
          case measure => omega
          case rel => exact ⟨t + 1, d2, by go_num, by omega, Nat.le_refl _, I2, Z2, S6.out.drop⟩
      have nk0 : (Int.tmod ak 4 == 0) = false := beq_eq_false_iff_ne.2 hk0
      clear hk0
      by_cases hk1 : Int.tmod ak 4 = 1
      · as_aux_lemma =>
          have CR0 := cread_f normOk TS.out S1.out.up1 ah HZ.out
          have CR1 := fun u a1 n1 c1 a2 n2 c2 (hu : Sep w.heap.size w u [RunR (.slice a1 n1 c1) (d.cr ah).1.1, RowR 3 (.slice a2 n2 c2) ((d.cr ah).1.2.1.map (Value.int .i64)), File f b (d.cr ah).2, Blk q (.cells #[.int .i64 ak, .slice la lL.length lc, .slice ia lI.length ic, .int .i64 ah, .string sa] 36), RFile g c d]) => rread_f hu.up4 ah hi63 HZ.out (by have := HI.out; omega)
          obtain ⟨t1, t2, t3, t4⟩ := d.cr_turn ah
          have I2 : Hid ((d.cr ah).2.pend.length ≤ 101 * (t + 1)) := by have h2 := HI.out; show _ ≤ _; rw [t2]; omega
          have Z2 : Hid ((d.cr ah).2.sure.length ≤ 1000) := by show _ ≤ _; rw [t1]; exact HZ.out
          have hz9 := HZ.out
          have t3' : (d.cr ah).1.1.length ≤ 1000000 := by omega
          have t4' : (d.cr ah).1.2.1.length ≤ 1000000 := by omega
          clear t1 t2 t3 t4 hz9
          generalize d.cr ah = cr at CR0 CR1 I2 Z2 t3' t4'
          obtain ⟨⟨R, P, er⟩, d2⟩ := cr
          dsimp only at CR0 CR1 I2 Z2 t3' t4'
          have CR : Hid _ := CR0
          have CRb : Hid _ := CR1
          clear CR0 CR1
          go_wp2_with fail
          refine Calls.mono CR.out ?_
          rintro e w5 ⟨b1, m1, k1, b2, m2, k2, rfl, s5⟩
          have S5 : Hid (Sep w.heap.size w w5 [RunR (.slice b1 m1 k1) R, RowR 3 (.slice b2 m2 k2) (P.map (Value.int .i64)), File f b d2, Blk q (.cells #[.int .i64 ak, .slice la lL.length lc, .slice ia lI.length ic, .int .i64 ah, .string sa] 36), RFile g c d]) := s5
          clear s5 CR a0c a1c a2c a3c a4c ltq S1
          obtain ⟨_, a1c, a2c, a3c, a4c, ltq⟩ := act9_cells S5.out.up3.blk
          have CR2 : Hid _ := CRb.out w5 _ _ _ _ _ _ S5.out
          clear CRb
          go_wp2_with fail
          refine Calls.mono CR2.out ?_
          rintro e w6 ⟨b3, m3, k3, b4, m4, k4, rfl, s6⟩
          have S6 : Hid (Sep w.heap.size w w6 [RunR (.slice b3 m3 k3) R, RowR 3 (.slice b4 m4 k4) (P.map (Value.int .i64)), RFile g c d2, RunR (.slice b1 m1 k1) R, RowR 3 (.slice b2 m2 k2) (P.map (Value.int .i64)), File f b d2, Blk q (.cells #[.int .i64 ak, .slice la lL.length lc, .slice ia lI.length ic, .int .i64 ah, .string sa] 36)]) := s6
          clear s6 CR2 S5 a1c a2c a3c a4c ltq
          have CS : Hid _ := same_any _ _ R R w6 S6.out.up3.run.own.row S6.out.run.own.row t3' t3'
          rw [decide_eq_true (rfl : R = R)] at CS
          go_wp2_with fail
          refine Calls.mono CS.out ?_
          rintro e w7 ⟨rfl, b7⟩
          have S7 : Hid (Sep w.heap.size w w7 [RunR (.slice b3 m3 k3) R, RowR 3 (.slice b4 m4 k4) (P.map (Value.int .i64)), RFile g c d2, RunR (.slice b1 m1 k1) R, RowR 3 (.slice b2 m2 k2) (P.map (Value.int .i64)), File f b d2, Blk q (.cells #[.int .i64 ak, .slice la lL.length lc, .slice ia lI.length ic, .int .i64 ah, .string sa] 36)]) := S6.out.below b7
          clear CS b7 S6
          have CT : Hid _ := sameI_any _ _ P P w7 S7.out.up4.introw S7.out.up1.introw t4' t4'
          rw [decide_eq_true (rfl : P = P)] at CT
          go_wp2_with fail
          refine Calls.mono CT.out ?_
          rintro e w8 ⟨rfl, b8⟩
          have S8 : Hid (Sep w.heap.size w w8 [File f b d2, RFile g c d2]) := (S7.out.below b8).drop.drop.up3.up4.drop.up3.drop.up2.drop
          clear CT b8 S7
          go_wp2
          go_roundg (l.length - (t + 1))
          case measure => omega
          case rel => exact ⟨t + 1, d2, by go_num, by omega, Nat.le_refl _, I2, Z2, S8.out⟩
      have nk1 : (Int.tmod ak 4 == 1) = false := beq_eq_false_iff_ne.2 hk1
      clear hk1
      by_cases hk2 : Int.tmod ak 4 = 2
      · as_aux_lemma =>
          have CR0 : ∀ u, Sep w.heap.size w u [Blk q (.cells #[.int .i64 ak, .slice la lL.length lc, .slice ia lI.length ic, .int .i64 ah, .string sa] 36), File f b d, RFile g c d] → Calls Tryz.prog 14 #[ptr f, .int .i64 ah, .int .u8 3, .string sa] u fun e w' => e = .returned (.int .i64 (d.wr ah 3 sa).1) ∧ Sep w.heap.size w w' [Blk q (.cells #[.int .i64 ak, .slice la lL.length lc, .slice ia lI.length ic, .int .i64 ah, .string sa] 36), File f b (d.wr ah 3 sa).2, RFile g c d] := fun u hu => (write_f TS.out hu.up1 ah 3 sa SZ.out (by have := HI.out; omega)).mono fun _ _ h => ⟨h.1, h.2.up1⟩
          have CR1 : ∀ u, Sep w.heap.size w u [Blk q (.cells #[.int .i64 ak, .slice la lL.length lc, .slice ia lI.length ic, .int .i64 ah, .string sa] 36), File f b (d.wr ah 3 sa).2, RFile g c d] → Calls Tryz.prog 15 #[ptr g, .int .i64 ah, .int .u8 3, .string sa] u fun e w' => e = .returned (.int .i64 (d.wr ah 3 sa).1) ∧ Sep w.heap.size w w' [Blk q (.cells #[.int .i64 ak, .slice la lL.length lc, .slice ia lI.length ic, .int .i64 ah, .string sa] 36), File f b (d.wr ah 3 sa).2, RFile g c (d.wr ah 3 sa).2] := fun u hu => (put_rf hu.up2 ah 3 sa hi63 SZ.out (by have := HI.out; omega)).mono fun _ _ h => ⟨h.1, h.2.dn2⟩
          have I2 : Hid ((d.wr ah 3 sa).2.pend.length ≤ 101 * (t + 1)) := Nat.le_trans (d.wr_sure ah 3 sa).2 (by have := HI.out; omega)
          have Z2 : Hid ((d.wr ah 3 sa).2.sure.length ≤ 1000) := by show _ ≤ _; rw [(d.wr_sure ah 3 sa).1]; exact HZ.out
          generalize (d.wr ah 3 sa).1 = er at CR0 CR1
          generalize (d.wr ah 3 sa).2 = d2 at CR0 CR1 I2 Z2
          have CR : Hid _ := CR0
          have CRb : Hid _ := CR1
          have SD : Hid (Sep w.heap.size w wa.drew [Blk q (.cells #[.int .i64 ak, .slice la lL.length lc, .slice ia lI.length ic, .int .i64 ah, .string sa] 36), File f b d, RFile g c d]) := S1.out.drew
          clear CR0 CR1
          go_wp2_with fail
          go_region_held3 (fun w' => w'.cell? ⟨q, 3, none⟩ = some (.int .i64 ah) ∧ w'.cell? ⟨q, 4, none⟩ = some (.string sa)) (first | assumption | exact ⟨a3c, a4c⟩) ((first | (go_at_call 14; have hgd := SD; clear hgd; refine Calls.mono (CR.out _ SD.out) ?_; rintro e w4 ⟨rfl, sx⟩; have hx := act9_cells sx.blk; have hS := And.intro hx.2.2.2.1 hx.2.2.2.2.1; have SX : Hid (Sep w.heap.size w w4 [Blk q (.cells #[.int .i64 ak, .slice la lL.length lc, .slice ia lI.length ic, .int .i64 ah, .string sa] 36), File f b d2, RFile g c d]) := sx; clear sx hx) | (go_at_call 15; have hgd := SX; clear hgd; refine Calls.mono (CRb.out _ SX.out) ?_; rintro e w4 ⟨rfl, sx⟩; have hx := act9_cells sx.blk; have hS := And.intro hx.2.2.2.1 hx.2.2.2.2.1; have SY : Hid (Sep w.heap.size w w4 [Blk q (.cells #[.int .i64 ak, .slice la lL.length lc, .slice ia lI.length ic, .int .i64 ah, .string sa] 36), File f b d2, RFile g c d2]) := sx; clear sx hx)))
          all_goals
            clear CR CRb SD S1 a0c a1c a2c a3c a4c ltq
            go_wp2
            go_roundg (l.length - (t + 1))
            case measure => omega
            case rel => exact ⟨t + 1, d2, by go_num, by omega, Nat.le_refl _, I2, Z2, SY.out.drop⟩
      have nk2 : (Int.tmod ak 4 == 2) = false := beq_eq_false_iff_ne.2 hk2
      clear hk2
      by_cases hk3 : Int.tmod ak 4 = 3
      · as_aux_lemma =>
          have CR0 := break_f S1.out.up1 ah hi63
          have CR1 := fun u (hu : Sep w.heap.size w u [Blk q (.cells #[.int .i64 ak, .slice la lL.length lc, .slice ia lI.length ic, .int .i64 ah, .string sa] 36), File f b (d.stop ah), RFile g c d]) => stop_rf hu.up2 ah hi63
          have I2 : Hid ((d.stop ah).pend.length ≤ 101 * (t + 1)) := Nat.le_trans HI.out (by omega)
          have Z2 : Hid ((d.stop ah).sure.length ≤ 1000) := HZ.out
          generalize (d.stop ah) = d2 at CR0 CR1 I2 Z2
          have CR : Hid _ := CR0
          have CRb : Hid _ := CR1
          clear CR0 CR1
          go_wp2_with fail
          refine Calls.mono CR.out ?_
          rintro e w5 ⟨rfl, s5⟩
          have S5 : Hid (Sep w.heap.size w w5 [Blk q (.cells #[.int .i64 ak, .slice la lL.length lc, .slice ia lI.length ic, .int .i64 ah, .string sa] 36), File f b d2, RFile g c d]) := s5.up1
          clear s5 CR a0c a1c a2c a3c a4c ltq S1
          obtain ⟨_, a1c, a2c, a3c, a4c, ltq⟩ := act9_cells S5.out.blk
          have CR2 : Hid _ := CRb.out w5 S5.out
          clear CRb
          go_wp2_with fail
          refine Calls.mono CR2.out ?_
          rintro e w6 ⟨rfl, s6⟩
          have S6 : Hid (Sep w.heap.size w w6 [Blk q (.cells #[.int .i64 ak, .slice la lL.length lc, .slice ia lI.length ic, .int .i64 ah, .string sa] 36), File f b d2, RFile g c d2]) := s6.dn2
          clear s6 CR2 S5 a1c a2c a3c a4c ltq
          go_wp2
          go_roundg (l.length - (t + 1))
          case measure => omega
          case rel => exact ⟨t + 1, d2, by go_num, by omega, Nat.le_refl _, I2, Z2, S6.out.drop⟩
      have nk3 : (Int.tmod ak 4 == 3) = false := beq_eq_false_iff_ne.2 hk3
      clear hk3
      as_aux_lemma =>
        have I2 : Hid (d.pend.length ≤ 101 * (t + 1)) := Nat.le_trans HI.out (by omega)
        go_wp2
        go_roundg (l.length - (t + 1))
        case measure => omega
        case rel => exact ⟨t + 1, d, by go_num, by omega, Nat.le_refl _, I2, HZ, S1.out.drop⟩
    · have htz : ¬ (t : Int) < (l.length : Int) := by omega
      go_wp2
      go_ret
      exact ⟨rfl, S.out.bel⟩

end Go.Proofs.YtnjnggjbeklmpaaGreatDoor

/-
  The walk of the law PagefileDoes.
-/
import Derived.Test.YtkbakmgjplhjiaaDoorPfRef
import Derived.Test.YtkbakmgjplhjiaaDoorPfLaw
import Derived.Deep.DeepCutAuto
namespace Go.Proofs.YtkbakmgjplhjiaaDoor
open Go.RowKit
set_option linter.unusedVariables false

theorem act_cells {w : World} {q : Nat} {v0 v1 v2 v3 : Value} {t : TypeId} (h : w.heap[q]? = some (.cells #[v0, v1, v2, v3] t (0, 0))) :
    w.cell? ⟨q, 0, none⟩ = some v0 ∧ w.cell? ⟨q, 1, none⟩ = some v1 ∧ w.cell? ⟨q, 2, none⟩ = some v2 ∧ w.cell? ⟨q, 3, none⟩ = some v3 ∧ q < w.heap.size := by
  simp [World.cell?, h]
  exact (Array.getElem?_eq_some_iff.1 h).1
/-- The first numbers. -/
def iota (n : Nat) : List Int := (List.range n).map fun (k : Nat) => (k : Int)
theorem iota_len' (n : Nat) : (iota n).length = n := by simp [iota]
theorem iota_len (n : Nat) : ((iota n).map (Value.int .i64)).length = n := by simp [iota]
theorem iota_map (n : Nat) : (iota (n + 1)).map (Value.int .i64) = (iota n).map (Value.int .i64) ++ [.int .i64 (n : Int)] := by simp [iota, List.range_succ]

set_option maxHeartbeats 16000000 in
set_option maxRecDepth 100000 in
theorem does_walk (n : Int) (v : Value) (l : List A1) (w : World) (T : Tab w) (hn : -9223372036854775808 ≤ n ∧ n ≤ 9223372036854775807) (h : ActRow w v l) : Calls Tryd.prog 3 #[.int .i64 n, v] w fun e w' => e = .returned (.bool true) ∧ Below w.heap.size w w' := by
  have CW : Hid _ := works_any w T
  have TS : Hid (Tabs w.heap.size w) := tabs_of T
  obtain ⟨ao, cap, rfl, hrow⟩ := h.row
  have HA : Hid (ActRow w (.slice ao l.length cap) l) := h
  clear h hrow T hn
  by_cases hn3 : 30 < n
  · go_enter Tryd.func3, Tryd.ntmps3
    go_wp2_with fail
    refine Calls.mono CW.out ?_
    rintro e w1 ⟨rfl, b1⟩
    have B1 : Hid (Below w.heap.size w w1) := b1
    clear b1 CW
    go_wp2
    go_ret
    exact ⟨rfl, B1.out⟩
  by_cases hl3 : 300 < l.length
  · have hlz : (300 : Int) < (l.length : Int) := by omega
    go_enter Tryd.func3, Tryd.ntmps3
    go_wp2_with fail
    refine Calls.mono CW.out ?_
    rintro e w1 ⟨rfl, b1⟩
    have B1 : Hid (Below w.heap.size w w1) := b1
    clear b1 CW
    go_wp2
    go_ret
    exact ⟨rfl, B1.out⟩
  have hlz : ¬ (300 : Int) < (l.length : Int) := by omega
  go_enter Tryd.func3, Tryd.ntmps3
  go_wp2_with fail
  refine Calls.mono CW.out ?_
  rintro e w1 ⟨rfl, b1⟩
  have CN : Hid _ := new_s n (Sep.nil b1.size b1)
  clear b1 CW
  go_wp2_with fail
  refine Calls.mono CN.out ?_
  rintro e w2 ⟨b, rfl, s2⟩
  have CF : Hid _ := new_f s2
  clear s2 CN
  go_wp2_with fail
  refine Calls.mono CF.out ?_
  rintro e w3 ⟨f, rfl, s3⟩
  have CN2 : Hid _ := new_rs n s3
  clear s3 CF
  go_wp2_with fail
  refine Calls.mono CN2.out ?_
  rintro e w4 ⟨c, rfl, s4⟩
  have S0 : Hid (Sep w.heap.size w (w4.alloc (.cells #[ptr c] 32)) [File f b (Dk.new n), RFile w4.heap.size c (Dk.new n)]) := (s4.addBlk (rfileO c)).up1.join.up1
  clear s4 CN2
  go_wp2
  generalize w4.alloc (.cells #[ptr c] 32) = w5 at *
  generalize w4.heap.size = g at *
  go_loopg [10] l.length (fun gk s10 wr => ∃ (t : Nat) (d : Dk), s10 = .int .i64 t ∧ t ≤ l.length ∧ l.length - t ≤ gk ∧ Hid (d.pend.length ≤ 2 * t) ∧ Aside (Sep w.heap.size w wr [File f b d, RFile g c d]))
  case atStart => exact ⟨0, Dk.new n, rfl, Nat.zero_le _, Nat.le_refl _, Nat.le_refl _, S0.out⟩
  case round =>
    clear S0
    obtain ⟨t, d, rfl, ht, hgt, HI, S⟩ := hrel
    by_cases htl : t < l.length
    · have htz : (t : Int) < (l.length : Int) := by omega
      obtain ⟨r, o, rfl, hr, x0, x1, x2, x3, hsz, hi63⟩ := HA.out.at S.out.bel (Nat.le_refl _) htl
      obtain ⟨A, hA⟩ : ∃ A, l.getD t a0 = A := ⟨_, rfl⟩
      rw [hA] at x0 x1 x2 x3 hsz hi63
      clear hA
      obtain ⟨ak, ai, akd, sa⟩ := A
      dsimp only at x0 x1 x2 x3 hsz hi63
      have SZ : Hid (sa.size ≤ maxLen) := hsz
      have S1 : Hid (Sep w.heap.size w (wr.alloc (.cells #[.int .i64 ak, .int .i64 ai, .int .u8 (akd.toNat : Int), .string sa] 35)) [Blk wr.heap.size (.cells #[.int .i64 ak, .int .i64 ai, .int .u8 (akd.toNat : Int), .string sa] 35), File f b d, RFile g c d]) := S.out.addBlk (.cells #[.int .i64 ak, .int .i64 ai, .int .u8 (akd.toNat : Int), .string sa] 35)
      unfold maxLen at hsz
      by_cases hs3 : 300 < sa.size
      · have hsz3 : (300 : Int) < (sa.size : Int) := by omega
        go_wp2
        go_ret
        exact ⟨rfl, S1.out.bel⟩
      have hsz3 : ¬ (300 : Int) < (sa.size : Int) := by omega
      go_upto_region 14 with fail
      generalize wr.alloc (.cells #[.int .i64 ak, .int .i64 ai, .int .u8 (akd.toNat : Int), .string sa] 35) = wa at *
      generalize wr.heap.size = q at *
      obtain ⟨a0c, a1c, a2c, a3c, ltq⟩ := act_cells S1.out.blk
      clear x0 x1 x2 x3 hr S
      by_cases hk0 : Int.tmod ak 8 = 0
      · as_aux_lemma =>
          have CR0 := read_f TS.out S1.out.up1 ai akd
          have CR1 := fun u (hu : Sep w.heap.size w u [Blk q (.cells #[.int .i64 ak, .int .i64 ai, .int .u8 (akd.toNat : Int), .string sa] 35), File f b (d.rd ai akd).2, RFile g c d]) => read_rf hu.up2 ai akd hi63 (by have := HI.out; omega)
          have I2 : Hid ((d.rd ai akd).2.pend.length ≤ 2 * (t + 1)) := by show _ ≤ _; rw [(d.rd_same ai akd).2]; have := HI.out; omega
          generalize (d.rd ai akd).1.1 = x at CR0 CR1
          generalize (d.rd ai akd).1.2 = er at CR0 CR1
          generalize (d.rd ai akd).2 = d2 at CR0 CR1 I2
          have CR : Hid _ := CR0
          have CRb : Hid _ := CR1
          clear CR0 CR1
          go_wp2_with fail
          refine Calls.mono CR.out ?_
          rintro e w5 ⟨rfl, s5⟩
          have S5 : Hid (Sep w.heap.size w w5 [Blk q (.cells #[.int .i64 ak, .int .i64 ai, .int .u8 (akd.toNat : Int), .string sa] 35), File f b d2, RFile g c d]) := s5.up1
          clear s5 CR a0c a1c a2c a3c ltq S1
          obtain ⟨_, a1c, a2c, a3c, ltq⟩ := act_cells S5.out.blk
          have CR2 : Hid _ := CRb.out w5 S5.out
          clear CRb
          go_wp2_with fail
          refine Calls.mono CR2.out ?_
          rintro e w6 ⟨rfl, s6⟩
          have S6 : Hid (Sep w.heap.size w w6 [Blk q (.cells #[.int .i64 ak, .int .i64 ai, .int .u8 (akd.toNat : Int), .string sa] 35), File f b d2, RFile g c d2]) := s6.dn2
          clear s6 CR2 S5 a1c a2c a3c ltq
          obtain ⟨ao3, cp3, k0, ltc⟩ := S6.out.up2.rsure
          have CM0 : Calls Tryd.prog 28 #[ptr f] w6.drew fun e w' => e = .returned (.int .i64 (max (d2.sure.length : Int) 2)) ∧ w6.drew = w' := by
            have := room_f S6.out.up1.drew
            rw [show ((d2.room : Nat) : Int) = max (d2.sure.length : Int) 2 by unfold Dk.room; omega] at this
            exact this
          have hL : d2.sure.length ≤ 16384 := S6.out.up1.fok.len
          generalize d2.sure.length = L at *
          have CM : Hid _ := CM0
          clear CM0
          go_wp2
          go_region_held3 (fun w' => w'.cell? ⟨c, 0, none⟩ = some (.slice ao3 L cp3)) (first | assumption | exact k0) ((go_at_call 28; refine Calls.mono CM.out ?_; rintro e wy ⟨rfl, rfl⟩))
          all_goals
            go_wp2
            go_roundg (l.length - (t + 1))
            case measure => omega
            case rel => exact ⟨t + 1, d2, by go_num, by omega, Nat.le_refl _, I2, S6.out.drew.drop⟩
      have nk0 : (Int.tmod ak 8 == 0) = false := beq_eq_false_iff_ne.2 hk0
      clear hk0
      by_cases hk1 : Int.tmod ak 8 = 1
      · as_aux_lemma =>
          have CR0 : ∀ u, Sep w.heap.size w u [Blk q (.cells #[.int .i64 ak, .int .i64 ai, .int .u8 (akd.toNat : Int), .string sa] 35), File f b d, RFile g c d] → Calls Tryd.prog 13 #[ptr f, .int .i64 ai, .int .u8 (akd.toNat : Int), .string sa] u fun e w' => e = .returned (.int .i64 (d.wr ai akd sa).1) ∧ Sep w.heap.size w w' [Blk q (.cells #[.int .i64 ak, .int .i64 ai, .int .u8 (akd.toNat : Int), .string sa] 35), File f b (d.wr ai akd sa).2, RFile g c d] := fun u hu => (write_f TS.out hu.up1 ai akd sa SZ.out (by have := HI.out; omega)).mono fun _ _ h => ⟨h.1, h.2.up1⟩
          have CR1 : ∀ u, Sep w.heap.size w u [Blk q (.cells #[.int .i64 ak, .int .i64 ai, .int .u8 (akd.toNat : Int), .string sa] 35), File f b (d.wr ai akd sa).2, RFile g c d] → Calls Tryd.prog 14 #[ptr g, .int .i64 ai, .int .u8 (akd.toNat : Int), .string sa] u fun e w' => e = .returned (.int .i64 (d.wr ai akd sa).1) ∧ Sep w.heap.size w w' [Blk q (.cells #[.int .i64 ak, .int .i64 ai, .int .u8 (akd.toNat : Int), .string sa] 35), File f b (d.wr ai akd sa).2, RFile g c (d.wr ai akd sa).2] := fun u hu => (put_rf hu.up2 ai akd sa hi63 SZ.out (by have := HI.out; omega)).mono fun _ _ h => ⟨h.1, h.2.dn2⟩
          have I2 : Hid ((d.wr ai akd sa).2.pend.length ≤ 2 * (t + 1)) := Nat.le_trans (d.wr_sure ai akd sa).2 (by have := HI.out; omega)
          generalize (d.wr ai akd sa).1 = er at CR0 CR1
          generalize (d.wr ai akd sa).2 = d2 at CR0 CR1 I2
          have CR : Hid _ := CR0
          have CRb : Hid _ := CR1
          have SD : Hid (Sep w.heap.size w wa.drew [Blk q (.cells #[.int .i64 ak, .int .i64 ai, .int .u8 (akd.toNat : Int), .string sa] 35), File f b d, RFile g c d]) := S1.out.drew
          clear CR0 CR1
          go_wp2
          go_region_held3 (fun w' => w'.cell? ⟨q, 1, none⟩ = some (.int .i64 ai) ∧ w'.cell? ⟨q, 2, none⟩ = some (.int .u8 (akd.toNat : Int)) ∧ w'.cell? ⟨q, 3, none⟩ = some (.string sa)) (first | assumption | exact ⟨a1c, a2c, a3c⟩) ((first | (go_at_call 13; have hgd := SD; clear hgd; refine Calls.mono (CR.out _ SD.out) ?_; rintro e w4 ⟨rfl, sx⟩; have hx := act_cells sx.blk; have hS := And.intro hx.2.1 (And.intro hx.2.2.1 hx.2.2.2.1); have SX : Hid (Sep w.heap.size w w4 [Blk q (.cells #[.int .i64 ak, .int .i64 ai, .int .u8 (akd.toNat : Int), .string sa] 35), File f b d2, RFile g c d]) := sx; clear sx hx) | (go_at_call 14; have hgd := SX; clear hgd; refine Calls.mono (CRb.out _ SX.out) ?_; rintro e w4 ⟨rfl, sx⟩; have hx := act_cells sx.blk; have hS := And.intro hx.2.1 (And.intro hx.2.2.1 hx.2.2.2.1); have SY : Hid (Sep w.heap.size w w4 [Blk q (.cells #[.int .i64 ak, .int .i64 ai, .int .u8 (akd.toNat : Int), .string sa] 35), File f b d2, RFile g c d2]) := sx; clear sx hx)))
          all_goals
            clear CR CRb SD S1 a0c a1c a2c a3c ltq
            obtain ⟨ao3, cp3, k0, ltc⟩ := SY.out.up2.rsure
            have CM0 : Calls Tryd.prog 28 #[ptr f] w4.drew fun e w' => e = .returned (.int .i64 (max (d2.sure.length : Int) 2)) ∧ w4.drew = w' := by
              have := room_f SY.out.up1.drew
              rw [show ((d2.room : Nat) : Int) = max (d2.sure.length : Int) 2 by unfold Dk.room; omega] at this
              exact this
            have hL : d2.sure.length ≤ 16384 := SY.out.up1.fok.len
            generalize d2.sure.length = L at *
            have CM : Hid _ := CM0
            clear CM0
            go_wp2
            go_region_held3 (fun w' => w'.cell? ⟨c, 0, none⟩ = some (.slice ao3 L cp3)) (first | assumption | exact k0) ((go_at_call 28; refine Calls.mono CM.out ?_; rintro e wy ⟨rfl, rfl⟩))
            all_goals
              go_wp2
              go_roundg (l.length - (t + 1))
              case measure => omega
              case rel => exact ⟨t + 1, d2, by go_num, by omega, Nat.le_refl _, I2, SY.out.drew.drop⟩
      have nk1 : (Int.tmod ak 8 == 1) = false := beq_eq_false_iff_ne.2 hk1
      clear hk1
      by_cases hk2 : Int.tmod ak 8 = 2
      · as_aux_lemma =>
          have CR0 := sync_f S1.out.up1 (by have := HI.out; omega)
          have CR1 := fun u (hu : Sep w.heap.size w u [Blk q (.cells #[.int .i64 ak, .int .i64 ai, .int .u8 (akd.toNat : Int), .string sa] 35), File f b d.sync.2, RFile g c d]) => sync_rf hu.up2 (by have := HI.out; omega)
          have I2 : Hid (d.sync.2.pend.length ≤ 2 * (t + 1)) := Nat.le_trans d.sync_length.2 (by have := HI.out; omega)
          generalize d.sync.1 = er at CR0 CR1
          generalize d.sync.2 = d2 at CR0 CR1 I2
          have CR : Hid _ := CR0
          have CRb : Hid _ := CR1
          clear CR0 CR1
          go_wp2_with fail
          refine Calls.mono CR.out ?_
          rintro e w5 ⟨rfl, s5⟩
          have S5 : Hid (Sep w.heap.size w w5 [Blk q (.cells #[.int .i64 ak, .int .i64 ai, .int .u8 (akd.toNat : Int), .string sa] 35), File f b d2, RFile g c d]) := s5.up1
          clear s5 CR a0c a1c a2c a3c ltq S1
          obtain ⟨_, a1c, a2c, a3c, ltq⟩ := act_cells S5.out.blk
          have CR2 : Hid _ := CRb.out w5 S5.out
          clear CRb
          go_wp2_with fail
          refine Calls.mono CR2.out ?_
          rintro e w6 ⟨rfl, s6⟩
          have S6 : Hid (Sep w.heap.size w w6 [Blk q (.cells #[.int .i64 ak, .int .i64 ai, .int .u8 (akd.toNat : Int), .string sa] 35), File f b d2, RFile g c d2]) := s6.dn2
          clear s6 CR2 S5 a1c a2c a3c ltq
          obtain ⟨ao3, cp3, k0, ltc⟩ := S6.out.up2.rsure
          have CM0 : Calls Tryd.prog 28 #[ptr f] w6.drew fun e w' => e = .returned (.int .i64 (max (d2.sure.length : Int) 2)) ∧ w6.drew = w' := by
            have := room_f S6.out.up1.drew
            rw [show ((d2.room : Nat) : Int) = max (d2.sure.length : Int) 2 by unfold Dk.room; omega] at this
            exact this
          have hL : d2.sure.length ≤ 16384 := S6.out.up1.fok.len
          generalize d2.sure.length = L at *
          have CM : Hid _ := CM0
          clear CM0
          go_wp2
          go_region_held3 (fun w' => w'.cell? ⟨c, 0, none⟩ = some (.slice ao3 L cp3)) (first | assumption | exact k0) ((go_at_call 28; refine Calls.mono CM.out ?_; rintro e wy ⟨rfl, rfl⟩))
          all_goals
            go_wp2
            go_roundg (l.length - (t + 1))
            case measure => omega
            case rel => exact ⟨t + 1, d2, by go_num, by omega, Nat.le_refl _, I2, S6.out.drew.drop⟩
      have nk2 : (Int.tmod ak 8 == 2) = false := beq_eq_false_iff_ne.2 hk2
      clear hk2
      by_cases hk3 : Int.tmod ak 8 = 3
      · as_aux_lemma =>
          have CR0 := slot_f S1.out.up1 ai
          have CR1 := fun u (hu : Sep w.heap.size w u [Blk q (.cells #[.int .i64 ak, .int .i64 ai, .int .u8 (akd.toNat : Int), .string sa] 35), File f b (d.slot ai).2, RFile g c d]) => slot_rf hu.up2 ai (by have := HI.out; omega)
          have I2 : Hid ((d.slot ai).2.pend.length ≤ 2 * (t + 1)) := by show _ ≤ _; rw [(d.slot_same ai).2]; have := HI.out; omega
          generalize (d.slot ai).1.1 = x at CR0 CR1
          generalize (d.slot ai).1.2 = er at CR0 CR1
          generalize (d.slot ai).2 = d2 at CR0 CR1 I2
          have CR : Hid _ := CR0
          have CRb : Hid _ := CR1
          clear CR0 CR1
          go_wp2_with fail
          refine Calls.mono CR.out ?_
          rintro e w5 ⟨rfl, s5⟩
          have S5 : Hid (Sep w.heap.size w w5 [Blk q (.cells #[.int .i64 ak, .int .i64 ai, .int .u8 (akd.toNat : Int), .string sa] 35), File f b d2, RFile g c d]) := s5.up1
          clear s5 CR a0c a1c a2c a3c ltq S1
          obtain ⟨_, a1c, a2c, a3c, ltq⟩ := act_cells S5.out.blk
          have CR2 : Hid _ := CRb.out w5 S5.out
          clear CRb
          go_wp2_with fail
          refine Calls.mono CR2.out ?_
          rintro e w6 ⟨rfl, s6⟩
          have S6 : Hid (Sep w.heap.size w w6 [Blk q (.cells #[.int .i64 ak, .int .i64 ai, .int .u8 (akd.toNat : Int), .string sa] 35), File f b d2, RFile g c d2]) := s6.dn2
          clear s6 CR2 S5 a1c a2c a3c ltq
          obtain ⟨ao3, cp3, k0, ltc⟩ := S6.out.up2.rsure
          have CM0 : Calls Tryd.prog 28 #[ptr f] w6.drew fun e w' => e = .returned (.int .i64 (max (d2.sure.length : Int) 2)) ∧ w6.drew = w' := by
            have := room_f S6.out.up1.drew
            rw [show ((d2.room : Nat) : Int) = max (d2.sure.length : Int) 2 by unfold Dk.room; omega] at this
            exact this
          have hL : d2.sure.length ≤ 16384 := S6.out.up1.fok.len
          generalize d2.sure.length = L at *
          have CM : Hid _ := CM0
          clear CM0
          go_wp2
          go_region_held3 (fun w' => w'.cell? ⟨c, 0, none⟩ = some (.slice ao3 L cp3)) (first | assumption | exact k0) ((go_at_call 28; refine Calls.mono CM.out ?_; rintro e wy ⟨rfl, rfl⟩))
          all_goals
            go_wp2
            go_roundg (l.length - (t + 1))
            case measure => omega
            case rel => exact ⟨t + 1, d2, by go_num, by omega, Nat.le_refl _, I2, S6.out.drew.drop⟩
      have nk3 : (Int.tmod ak 8 == 3) = false := beq_eq_false_iff_ne.2 hk3
      clear hk3
      by_cases hk4 : Int.tmod ak 8 = 4
      · as_aux_lemma =>
          have CFl : Hid (∀ u, Calls Tryd.prog 20 #[.string sa] u fun e w' => e = .returned (.string (fullS sa)) ∧ u = w') := fun u => full_c sa SZ.out u
          have hfs : (fullS sa).size ≤ maxLen := by rw [fullS_size]; decide
          generalize fullS sa = fs at CFl hfs
          have CR0 : ∀ u, Sep w.heap.size w u [Blk q (.cells #[.int .i64 ak, .int .i64 ai, .int .u8 (akd.toNat : Int), .string sa] 35), File f b d, RFile g c d] → Calls Tryd.prog 19 #[ptr f, .int .i64 ai, .string fs] u fun e w' => e = .returned (.int .i64 (d.putSlot ai fs).1) ∧ Sep w.heap.size w w' [Blk q (.cells #[.int .i64 ak, .int .i64 ai, .int .u8 (akd.toNat : Int), .string sa] 35), File f b (d.putSlot ai fs).2, RFile g c d] := fun u hu => (putSlot_f hu.up1 ai fs hfs (by have := HI.out; omega)).mono fun _ _ h => ⟨h.1, h.2.up1⟩
          have CR1 : ∀ u, Sep w.heap.size w u [Blk q (.cells #[.int .i64 ak, .int .i64 ai, .int .u8 (akd.toNat : Int), .string sa] 35), File f b (d.putSlot ai fs).2, RFile g c d] → Calls Tryd.prog 21 #[ptr g, .int .i64 ai, .string fs] u fun e w' => e = .returned (.int .i64 (d.putSlot ai fs).1) ∧ Sep w.heap.size w w' [Blk q (.cells #[.int .i64 ak, .int .i64 ai, .int .u8 (akd.toNat : Int), .string sa] 35), File f b (d.putSlot ai fs).2, RFile g c (d.putSlot ai fs).2] := fun u hu => (putSlot_rf hu.up2 ai fs hfs (by have := HI.out; omega)).mono fun _ _ h => ⟨h.1, h.2.dn2⟩
          have I2 : (d.putSlot ai fs).2.pend.length ≤ 2 * t + 1 := Nat.le_trans (d.putSlot_sure ai fs).2 (by have := HI.out; omega)
          generalize (d.putSlot ai fs).1 = er at CR0 CR1
          generalize (d.putSlot ai fs).2 = d2 at CR0 CR1 I2
          obtain ⟨sh, hsh⟩ : ∃ sh : ByteArray, sh = ⟨#[115, 104, 111, 114, 116]⟩ := ⟨_, rfl⟩
          have hsm : sh.size ≤ maxLen := by rw [hsh]; decide
          have CR2 : ∀ u, Sep w.heap.size w u [Blk q (.cells #[.int .i64 ak, .int .i64 ai, .int .u8 (akd.toNat : Int), .string sa] 35), File f b d2, RFile g c d2] → Calls Tryd.prog 19 #[ptr f, .int .i64 ai, .string sh] u fun e w' => e = .returned (.int .i64 (d2.putSlot ai sh).1) ∧ Sep w.heap.size w w' [Blk q (.cells #[.int .i64 ak, .int .i64 ai, .int .u8 (akd.toNat : Int), .string sa] 35), File f b (d2.putSlot ai sh).2, RFile g c d2] := fun u hu => (putSlot_f hu.up1 ai sh hsm (by omega)).mono fun _ _ h => ⟨h.1, h.2.up1⟩
          have CR3 : ∀ u, Sep w.heap.size w u [Blk q (.cells #[.int .i64 ak, .int .i64 ai, .int .u8 (akd.toNat : Int), .string sa] 35), File f b (d2.putSlot ai sh).2, RFile g c d2] → Calls Tryd.prog 21 #[ptr g, .int .i64 ai, .string sh] u fun e w' => e = .returned (.int .i64 (d2.putSlot ai sh).1) ∧ Sep w.heap.size w w' [Blk q (.cells #[.int .i64 ak, .int .i64 ai, .int .u8 (akd.toNat : Int), .string sa] 35), File f b (d2.putSlot ai sh).2, RFile g c (d2.putSlot ai sh).2] := fun u hu => (putSlot_rf hu.up2 ai sh hsm (by omega)).mono fun _ _ h => ⟨h.1, h.2.dn2⟩
          have I3 : Hid ((d2.putSlot ai sh).2.pend.length ≤ 2 * (t + 1)) := Nat.le_trans (d2.putSlot_sure ai sh).2 (by omega)
          generalize (d2.putSlot ai sh).1 = er3 at CR2 CR3
          generalize (d2.putSlot ai sh).2 = d3 at CR2 CR3 I3
          subst hsh
          have CR : Hid _ := CR0
          have CRb : Hid _ := CR1
          have CRc : Hid _ := CR2
          have CRd : Hid _ := CR3
          have SD : Hid (Sep w.heap.size w wa.drew [Blk q (.cells #[.int .i64 ak, .int .i64 ai, .int .u8 (akd.toNat : Int), .string sa] 35), File f b d, RFile g c d]) := S1.out.drew
          have nee : (er != er) = false := by simp
          clear CR0 CR1 CR2 CR3 hfs hsm I2
          go_wp2
          go_region_held3 (fun w' => w'.cell? ⟨q, 1, none⟩ = some (.int .i64 ai) ∧ w'.cell? ⟨q, 2, none⟩ = some (.int .u8 (akd.toNat : Int)) ∧ w'.cell? ⟨q, 3, none⟩ = some (.string sa)) (first | assumption | exact ⟨a1c, a2c, a3c⟩) ((first | (go_at_call 20; refine Calls.mono (CFl.out _) ?_; rintro e wy ⟨rfl, rfl⟩) | (go_at_call 21; have hgd := SV; clear hgd; refine Calls.mono (CRd.out _ SV.out) ?_; rintro e w4 ⟨rfl, sx⟩; have hx := act_cells sx.blk; have hS := And.intro hx.2.1 (And.intro hx.2.2.1 hx.2.2.2.1); have SW : Hid (Sep w.heap.size w w4 [Blk q (.cells #[.int .i64 ak, .int .i64 ai, .int .u8 (akd.toNat : Int), .string sa] 35), File f b d3, RFile g c d3]) := sx; clear sx hx) | (go_at_call 21; have hgd := SX; clear hgd; refine Calls.mono (CRb.out _ SX.out) ?_; rintro e w4 ⟨rfl, sx⟩; have hx := act_cells sx.blk; have hS := And.intro hx.2.1 (And.intro hx.2.2.1 hx.2.2.2.1); have SY : Hid (Sep w.heap.size w w4 [Blk q (.cells #[.int .i64 ak, .int .i64 ai, .int .u8 (akd.toNat : Int), .string sa] 35), File f b d2, RFile g c d2]) := sx; clear sx hx) | (go_at_call 19; have hgd := SY; clear hgd; refine Calls.mono (CRc.out _ SY.out) ?_; rintro e w4 ⟨rfl, sx⟩; have hx := act_cells sx.blk; have hS := And.intro hx.2.1 (And.intro hx.2.2.1 hx.2.2.2.1); have SV : Hid (Sep w.heap.size w w4 [Blk q (.cells #[.int .i64 ak, .int .i64 ai, .int .u8 (akd.toNat : Int), .string sa] 35), File f b d3, RFile g c d2]) := sx; clear sx hx) | (go_at_call 19; have hgd := SD; clear hgd; refine Calls.mono (CR.out _ SD.out) ?_; rintro e w4 ⟨rfl, sx⟩; have hx := act_cells sx.blk; have hS := And.intro hx.2.1 (And.intro hx.2.2.1 hx.2.2.2.1); have SX : Hid (Sep w.heap.size w w4 [Blk q (.cells #[.int .i64 ak, .int .i64 ai, .int .u8 (akd.toNat : Int), .string sa] 35), File f b d2, RFile g c d]) := sx; clear sx hx)))
          all_goals
            clear CR CRb CRc CRd SD S1 a0c a1c a2c a3c ltq
            obtain ⟨ao3, cp3, k0, ltc⟩ := SW.out.up2.rsure
            have CM0 : Calls Tryd.prog 28 #[ptr f] w4.drew fun e w' => e = .returned (.int .i64 (max (d3.sure.length : Int) 2)) ∧ w4.drew = w' := by
              have := room_f SW.out.up1.drew
              rw [show ((d3.room : Nat) : Int) = max (d3.sure.length : Int) 2 by unfold Dk.room; omega] at this
              exact this
            have hL : d3.sure.length ≤ 16384 := SW.out.up1.fok.len
            generalize d3.sure.length = L at *
            have CM : Hid _ := CM0
            clear CM0
            go_wp2
            go_region_held3 (fun w' => w'.cell? ⟨c, 0, none⟩ = some (.slice ao3 L cp3)) (first | assumption | exact k0) ((go_at_call 28; refine Calls.mono CM.out ?_; rintro e wy ⟨rfl, rfl⟩))
            all_goals
              go_wp2
              go_roundg (l.length - (t + 1))
              case measure => omega
              case rel => exact ⟨t + 1, d3, by go_num, by omega, Nat.le_refl _, I3, SW.out.drew.drop⟩
      have nk4 : (Int.tmod ak 8 == 4) = false := beq_eq_false_iff_ne.2 hk4
      clear hk4
      by_cases hk5 : Int.tmod ak 8 = 5
      · as_aux_lemma =>
          have CR0 := break_f S1.out.up1 ai hi63
          have CR1 := fun u (hu : Sep w.heap.size w u [Blk q (.cells #[.int .i64 ak, .int .i64 ai, .int .u8 (akd.toNat : Int), .string sa] 35), File f b (d.stop ai), RFile g c d]) => stop_rf hu.up2 ai hi63
          have I2 : Hid ((d.stop ai).pend.length ≤ 2 * (t + 1)) := Nat.le_trans HI.out (by omega)
          generalize (d.stop ai) = d2 at CR0 CR1 I2
          have CR : Hid _ := CR0
          have CRb : Hid _ := CR1
          clear CR0 CR1
          go_wp2_with fail
          refine Calls.mono CR.out ?_
          rintro e w5 ⟨rfl, s5⟩
          have S5 : Hid (Sep w.heap.size w w5 [Blk q (.cells #[.int .i64 ak, .int .i64 ai, .int .u8 (akd.toNat : Int), .string sa] 35), File f b d2, RFile g c d]) := s5.up1
          clear s5 CR a0c a1c a2c a3c ltq S1
          obtain ⟨_, a1c, a2c, a3c, ltq⟩ := act_cells S5.out.blk
          have CR2 : Hid _ := CRb.out w5 S5.out
          clear CRb
          go_wp2_with fail
          refine Calls.mono CR2.out ?_
          rintro e w6 ⟨rfl, s6⟩
          have S6 : Hid (Sep w.heap.size w w6 [Blk q (.cells #[.int .i64 ak, .int .i64 ai, .int .u8 (akd.toNat : Int), .string sa] 35), File f b d2, RFile g c d2]) := s6.dn2
          clear s6 CR2 S5 a1c a2c a3c ltq
          obtain ⟨ao3, cp3, k0, ltc⟩ := S6.out.up2.rsure
          have CM0 : Calls Tryd.prog 28 #[ptr f] w6.drew fun e w' => e = .returned (.int .i64 (max (d2.sure.length : Int) 2)) ∧ w6.drew = w' := by
            have := room_f S6.out.up1.drew
            rw [show ((d2.room : Nat) : Int) = max (d2.sure.length : Int) 2 by unfold Dk.room; omega] at this
            exact this
          have hL : d2.sure.length ≤ 16384 := S6.out.up1.fok.len
          generalize d2.sure.length = L at *
          have CM : Hid _ := CM0
          clear CM0
          go_wp2
          go_region_held3 (fun w' => w'.cell? ⟨c, 0, none⟩ = some (.slice ao3 L cp3)) (first | assumption | exact k0) ((go_at_call 28; refine Calls.mono CM.out ?_; rintro e wy ⟨rfl, rfl⟩))
          all_goals
            go_wp2
            go_roundg (l.length - (t + 1))
            case measure => omega
            case rel => exact ⟨t + 1, d2, by go_num, by omega, Nat.le_refl _, I2, S6.out.drew.drop⟩
      have nk5 : (Int.tmod ak 8 == 5) = false := beq_eq_false_iff_ne.2 hk5
      clear hk5
      by_cases hk6 : Int.tmod ak 8 = 6
      · as_aux_lemma =>
          have S2 : Aside (Sep w.heap.size w wa [RowR 3 (.slice none 0 0) ((iota 0).map (Value.int .i64)), Blk q (.cells #[.int .i64 ak, .int .i64 ai, .int .u8 (akd.toNat : Int), .string sa] 35), File f b d, RFile g c d]) := S1.out.addNil 3
          go_wp2
          clear a0c a1c a2c a3c ltq S1
          go_loopg [20, 21] d.pend.length (fun gm s20 s21 wq => ∃ (m : Nat) (am : Option Addr) (nm cm : Nat), s20 = .slice am nm cm ∧ s21 = .int .i64 m ∧ m ≤ d.pend.length ∧ d.pend.length - m ≤ gm ∧ Aside (Sep w.heap.size w wq [RowR 3 (.slice am nm cm) ((iota m).map (Value.int .i64)), Blk q (.cells #[.int .i64 ak, .int .i64 ai, .int .u8 (akd.toNat : Int), .string sa] 35), File f b d, RFile g c d]))
          case atStart => exact ⟨0, none, 0, 0, rfl, rfl, Nat.zero_le _, Nat.le_refl _, S2⟩
          case round =>
            clear S2
            obtain ⟨m, am, nm, cm, rfl, rfl, hm, hgm, S⟩ := hrel
            have hp6 := HI.out
            obtain ⟨ao3, cp3, k1, ltc⟩ := S.out.up3.rwait
            by_cases hml : m < d.pend.length
            · have hmz : (m : Int) < (d.pend.length : Int) := by omega
              generalize d.pend.length = L at *
              go_wp2_with (at_builtin; refine app_int rfl _ _ rfl _ _ rfl (S.out.alloc _) wr.heap.size 1 (m : Int) rfl (by simp) (by rw [iota_len]; omega) ?_)
              intro a7 n7 c7 w7 s7
              have S7 : Aside (Sep w.heap.size w w7 [RowR 3 (.slice a7 n7 c7) ((iota (m + 1)).map (Value.int .i64)), Blk q (.cells #[.int .i64 ak, .int .i64 ai, .int .u8 (akd.toNat : Int), .string sa] 35), File f b d, RFile g c d]) := by show Sep _ _ _ _; rw [iota_map]; exact s7
              clear s7 S k1 ltc
              go_wp2
              go_roundg (L - (m + 1))
              case measure => omega
              case rel => exact ⟨m + 1, a7, n7, c7, rfl, by go_num, by omega, Nat.le_refl _, S7⟩
            · have hmz : ¬ (m : Int) < (d.pend.length : Int) := by omega
              have CR0 := crash_f S.out.up2 (.slice am nm cm) (iota m) (introw_of S.out) (-1) 0 (by have := HI.out; omega) (by rw [iota_len']; omega)
              have CR1 := fun u (hu : Sep w.heap.size w u [RowR 3 (.slice am nm cm) ((iota m).map (Value.int .i64)), Blk q (.cells #[.int .i64 ak, .int .i64 ai, .int .u8 (akd.toNat : Int), .string sa] 35), File f b (d.crash (iota m) (-1) 0), RFile g c d]) => crash_rf hu.up3 (-1) 0 (by have := HI.out; omega) (by rw [iota_len']; omega)
              have I2 : Hid ((d.crash (iota m) (-1) 0).pend.length ≤ 2 * (t + 1)) := Nat.zero_le _
              generalize d.crash (iota m) (-1) 0 = d2 at CR0 CR1 I2
              have CR : Hid _ := CR0
              have CRb : Hid _ := CR1
              generalize d.pend.length = L at *
              clear CR0 CR1
              go_wp2_with fail
              refine Calls.mono CR.out ?_
              rintro e w5 ⟨rfl, s5⟩
              have S5 : Hid (Sep w.heap.size w w5 [RowR 3 (.slice am nm cm) ((iota m).map (Value.int .i64)), Blk q (.cells #[.int .i64 ak, .int .i64 ai, .int .u8 (akd.toNat : Int), .string sa] 35), File f b d2, RFile g c d]) := s5.dn2
              clear s5 CR S k1 ltc
              have CR2 : Hid _ := CRb.out w5 S5.out
              clear CRb
              go_wp2_with fail
              refine Calls.mono CR2.out ?_
              rintro e w6 ⟨rfl, s6⟩
              have S6 : Hid (Sep w.heap.size w w6 [Blk q (.cells #[.int .i64 ak, .int .i64 ai, .int .u8 (akd.toNat : Int), .string sa] 35), File f b d2, RFile g c d2]) := s6.dn3.drop
              clear s6 CR2 S5
              obtain ⟨ao3, cp3, k0, ltc⟩ := S6.out.up2.rsure
              have CM0 : Calls Tryd.prog 28 #[ptr f] w6.drew fun e w' => e = .returned (.int .i64 (max (d2.sure.length : Int) 2)) ∧ w6.drew = w' := by
                have := room_f S6.out.up1.drew
                rw [show ((d2.room : Nat) : Int) = max (d2.sure.length : Int) 2 by unfold Dk.room; omega] at this
                exact this
              have hL : d2.sure.length ≤ 16384 := S6.out.up1.fok.len
              generalize d2.sure.length = L at *
              have CM : Hid _ := CM0
              clear CM0
              go_wp2
              go_region_held3 (fun w' => w'.cell? ⟨c, 0, none⟩ = some (.slice ao3 L cp3)) (first | assumption | exact k0) ((go_at_call 28; refine Calls.mono CM.out ?_; rintro e wy ⟨rfl, rfl⟩))
              all_goals
                go_wp2
                go_roundg (l.length - (t + 1))
                case measure => omega
                case rel => exact ⟨t + 1, d2, by go_num, by omega, Nat.le_refl _, I2, S6.out.drew.drop⟩
      have nk6 : (Int.tmod ak 8 == 6) = false := beq_eq_false_iff_ne.2 hk6
      clear hk6
      by_cases hk7 : Int.tmod ak 8 = 7
      · as_aux_lemma =>
          have CFl : Hid (∀ u, Calls Tryd.prog 20 #[.string sa] u fun e w' => e = .returned (.string (fullS sa)) ∧ u = w') := fun u => full_c sa SZ.out u
          have hfs : (fullS sa).size ≤ maxLen := by rw [fullS_size]; decide
          generalize fullS sa = fs at CFl hfs
          have CR0 : ∀ u, Sep w.heap.size w u [Blk q (.cells #[.int .i64 ak, .int .i64 ai, .int .u8 (akd.toNat : Int), .string sa] 35), File f b d, RFile g c d] → Calls Tryd.prog 26 #[ptr b, .int .i64 ai, .string fs] u fun e w' => e = .returned (.int .i64 (d.put ai fs).1) ∧ Sep w.heap.size w w' [Blk q (.cells #[.int .i64 ak, .int .i64 ai, .int .u8 (akd.toNat : Int), .string sa] 35), File f b (d.put ai fs).2, RFile g c d] := fun u hu => (dwrite_f hu.up1 ai fs hfs (by have := HI.out; omega)).mono fun _ _ h => ⟨h.1, h.2.up1⟩
          have CR1 : ∀ u, Sep w.heap.size w u [Blk q (.cells #[.int .i64 ak, .int .i64 ai, .int .u8 (akd.toNat : Int), .string sa] 35), File f b (d.put ai fs).2, RFile g c d] → Calls Tryd.prog 27 #[ptr c, .int .i64 ai, .string fs] u fun e w' => e = .returned (.int .i64 (d.put ai fs).1) ∧ Sep w.heap.size w w' [Blk q (.cells #[.int .i64 ak, .int .i64 ai, .int .u8 (akd.toNat : Int), .string sa] 35), File f b (d.put ai fs).2, RFile g c (d.put ai fs).2] := fun u hu => (dput_rf hu.up2 ai fs hfs (by have := HI.out; omega)).mono fun _ _ h => ⟨h.1, h.2.dn2⟩
          have I2 : Hid ((d.put ai fs).2.pend.length ≤ 2 * (t + 1)) := Nat.le_trans (d.put_sure ai fs).2 (by have := HI.out; omega)
          generalize (d.put ai fs).1 = er at CR0 CR1
          generalize (d.put ai fs).2 = d2 at CR0 CR1 I2
          have CR : Hid _ := CR0
          have CRb : Hid _ := CR1
          have SD : Hid (Sep w.heap.size w wa.drew [Blk q (.cells #[.int .i64 ak, .int .i64 ai, .int .u8 (akd.toNat : Int), .string sa] 35), File f b d, RFile g c d]) := S1.out.drew
          clear CR0 CR1 hfs
          go_wp2
          go_region_held3 (fun w' => w'.cell? ⟨q, 1, none⟩ = some (.int .i64 ai) ∧ w'.cell? ⟨q, 2, none⟩ = some (.int .u8 (akd.toNat : Int)) ∧ w'.cell? ⟨q, 3, none⟩ = some (.string sa)) (first | assumption | exact ⟨a1c, a2c, a3c⟩) ((first | (go_at_call 20; refine Calls.mono (CFl.out _) ?_; rintro e wy ⟨rfl, rfl⟩) | (go_at_call 26; have hgd := SD; clear hgd; refine Calls.mono (CR.out _ SD.out) ?_; rintro e w4 ⟨rfl, sx⟩; have hx := act_cells sx.blk; have hS := And.intro hx.2.1 (And.intro hx.2.2.1 hx.2.2.2.1); have SX : Hid (Sep w.heap.size w w4 [Blk q (.cells #[.int .i64 ak, .int .i64 ai, .int .u8 (akd.toNat : Int), .string sa] 35), File f b d2, RFile g c d]) := sx; clear sx hx) | (go_at_call 27; have hgd := SX; clear hgd; refine Calls.mono (CRb.out _ SX.out) ?_; rintro e w4 ⟨rfl, sx⟩; have hx := act_cells sx.blk; have hS := And.intro hx.2.1 (And.intro hx.2.2.1 hx.2.2.2.1); have SY : Hid (Sep w.heap.size w w4 [Blk q (.cells #[.int .i64 ak, .int .i64 ai, .int .u8 (akd.toNat : Int), .string sa] 35), File f b d2, RFile g c d2]) := sx; clear sx hx)))
          all_goals
            clear CR CRb SD S1 a0c a1c a2c a3c ltq
            obtain ⟨ao3, cp3, k0, ltc⟩ := SY.out.up2.rsure
            have CM0 : Calls Tryd.prog 28 #[ptr f] w4.drew fun e w' => e = .returned (.int .i64 (max (d2.sure.length : Int) 2)) ∧ w4.drew = w' := by
              have := room_f SY.out.up1.drew
              rw [show ((d2.room : Nat) : Int) = max (d2.sure.length : Int) 2 by unfold Dk.room; omega] at this
              exact this
            have hL : d2.sure.length ≤ 16384 := SY.out.up1.fok.len
            generalize d2.sure.length = L at *
            have CM : Hid _ := CM0
            clear CM0
            go_wp2
            go_region_held3 (fun w' => w'.cell? ⟨c, 0, none⟩ = some (.slice ao3 L cp3)) (first | assumption | exact k0) ((go_at_call 28; refine Calls.mono CM.out ?_; rintro e wy ⟨rfl, rfl⟩))
            all_goals
              go_wp2
              go_roundg (l.length - (t + 1))
              case measure => omega
              case rel => exact ⟨t + 1, d2, by go_num, by omega, Nat.le_refl _, I2, SY.out.drew.drop⟩
      have nk7 : (Int.tmod ak 8 == 7) = false := beq_eq_false_iff_ne.2 hk7
      clear hk7
      as_aux_lemma =>
        have I2 : Hid (d.pend.length ≤ 2 * (t + 1)) := Nat.le_trans HI.out (by omega)

        obtain ⟨ao3, cp3, k0, ltc⟩ := S1.out.up2.rsure
        have CM0 : Calls Tryd.prog 28 #[ptr f] wa.drew fun e w' => e = .returned (.int .i64 (max (d.sure.length : Int) 2)) ∧ wa.drew = w' := by
          have := room_f S1.out.up1.drew
          rw [show ((d.room : Nat) : Int) = max (d.sure.length : Int) 2 by unfold Dk.room; omega] at this
          exact this
        have hL : d.sure.length ≤ 16384 := S1.out.up1.fok.len
        generalize d.sure.length = L at *
        have CM : Hid _ := CM0
        clear CM0
        go_wp2
        go_region_held3 (fun w' => w'.cell? ⟨c, 0, none⟩ = some (.slice ao3 L cp3)) (first | assumption | exact k0) ((go_at_call 28; refine Calls.mono CM.out ?_; rintro e wy ⟨rfl, rfl⟩))
        all_goals
          go_wp2
          go_roundg (l.length - (t + 1))
          case measure => omega
          case rel => exact ⟨t + 1, d, by go_num, by omega, Nat.le_refl _, I2, S1.out.drew.drop⟩
    · have htz : ¬ (t : Int) < (l.length : Int) := by omega
      go_wp2
      go_ret
      exact ⟨rfl, S.out.bel⟩

end Go.Proofs.YtkbakmgjplhjiaaDoor

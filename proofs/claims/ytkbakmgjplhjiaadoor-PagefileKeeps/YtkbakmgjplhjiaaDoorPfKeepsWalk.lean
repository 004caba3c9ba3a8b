/-
  The walk of the law PagefileKeeps.
-/
import Derived.Test.YtkbakmgjplhjiaaDoorPfUp
import Derived.Deep.DeepCutAuto
namespace Go.Proofs.YtkbakmgjplhjiaaDoor
open Go.RowKit
set_option linter.unusedVariables false

section
variable {B : Nat} {w0 w : World} {a b c e f g : Res} {l : List Res}
theorem Sep.up5 (h : Sep B w0 w (a :: b :: c :: e :: f :: g :: l)) : Sep B w0 w (g :: a :: b :: c :: e :: f :: l) := (h.map fun _ h => Hp.under h fun _ h => Hp.under h fun _ h => Hp.under h fun _ h => Hp.under h fun _ => Hp.swap).up4
theorem Sep.dn5 (h : Sep B w0 w (g :: a :: b :: c :: e :: f :: l)) : Sep B w0 w (a :: b :: c :: e :: f :: g :: l) := h.dn4.map fun _ h => Hp.under h fun _ h => Hp.under h fun _ h => Hp.under h fun _ h => Hp.under h fun _ => Hp.swap
end
theorem act_cells {w : World} {q : Nat} {v0 v1 v2 v3 : Value} {t : TypeId} (h : w.heap[q]? = some (.cells #[v0, v1, v2, v3] t (0, 0))) :
    w.cell? ⟨q, 0, none⟩ = some v0 ∧ w.cell? ⟨q, 1, none⟩ = some v1 ∧ w.cell? ⟨q, 2, none⟩ = some v2 ∧ w.cell? ⟨q, 3, none⟩ = some v3 ∧ q < w.heap.size := by
  simp [World.cell?, h]
  exact (Array.getElem?_eq_some_iff.1 h).1

/-- What each page and slot is wanted to read as. -/
structure Kp (d : Dk) (bodies : List ByteArray) (kinds : List UInt8) (there : List Bool) (slots : List ByteArray) (t : Nat) : Prop where
  up : Up 12 d
  pg : Pages d kinds bodies there
  sl : slots.length = 2
  sn : ∀ j, j < 2 → d.now j = sAt slots j
  pl : d.pend.length ≤ t
section
variable {d d2 : Dk} {bodies : List ByteArray} {kinds : List UInt8} {there : List Bool} {slots : List ByteArray} {t : Nat}
theorem full_none : fullS ⟨#[]⟩ = zeroS := by decide +kernel
theorem Kp.new : Kp (Dk.new 12) (List.replicate 12 ByteArray.empty) (List.replicate 12 0) (List.replicate 12 false) [zeroS, zeroS] 0 := by
  refine ⟨Up.new 12 (by omega), Pages.new 0, rfl, fun j hj => ?_, Nat.le_refl _⟩
  refine (new_now (n := 12) (j := j) (by omega) (by omega)).trans ?_
  match j, hj with
  | 0, _ => rfl
  | 1, _ => rfl
theorem Kp.more (h : Kp d bodies kinds there slots t) : Kp d bodies kinds there slots (t + 1) := ⟨h.up, h.pg, h.sl, h.sn, Nat.le_succ_of_le h.pl⟩
theorem Kp.sync (h : Kp d bodies kinds there slots t) (ok : d.Ok) : Kp d.sync.2 bodies kinds there slots t := by
  obtain ⟨_, q2, q3, q4, _⟩ := h.up.sync ok
  exact ⟨q2, h.pg.same (fun j _ _ => q3 j), h.sl, fun j hj => by rw [q3]; exact h.sn j hj, by rw [q4]; exact Nat.zero_le _⟩
theorem Kp.slot (h : Kp d bodies kinds there slots t) (u : Up 12 d2) {i : Nat} (hi : i < 2) {s : ByteArray} (hp : d2.pend = d.pend ++ [(i, s)]) (hs : d2.sure = d.sure) : Kp d2 bodies kinds there (slots.set i s) (t + 1) := by
  have a1 := h.sl
  have a2 := h.pl
  refine ⟨u, h.pg.same (fun j h2 _ => by rw [now_snoc hp hs, if_neg (by omega)]), by rw [List.length_set]; exact a1, fun j hj => ?_, by rw [hp]; simp; omega⟩
  rw [now_snoc hp hs, sAt_set _ (by omega), h.sn j hj]
theorem Kp.page (h : Kp d bodies kinds there slots t) (u : Up 12 d2) {i : Nat} (h2 : 2 ≤ i) (hi : i < 12) {k : UInt8} {s : ByteArray} (hz : s.size ≤ 240) (hp : d2.pend = d.pend ++ [(i, pageS i k s)]) (hs : d2.sure = d.sure) : Kp d2 (bodies.set i s) (kinds.set i k) (there.set i true) slots (t + 1) := by
  have a2 := h.pl
  refine ⟨u, h.pg.set hi hz hp hs, h.sl, fun j hj => ?_, by rw [hp]; simp; omega⟩
  rw [now_snoc hp hs, if_neg (by omega), h.sn j hj]
theorem Kp.same (h : Kp d bodies kinds there slots t) (u : Up 12 d2) (hn : ∀ j, d2.now j = d.now j) (hp : d2.pend = d.pend) : Kp d2 bodies kinds there slots t :=
  ⟨u, h.pg.same (fun j _ _ => hn j), h.sl, fun j hj => by rw [hn]; exact h.sn j hj, by rw [hp]; exact h.pl⟩
end

set_option maxHeartbeats 16000000 in
set_option maxRecDepth 100000 in
theorem keeps_walk (v : Value) (l : List A1) (w : World) (T : Tab w) (h : ActRow w v l) :
    Calls Tryd.prog 4 #[v] w fun e w' => e = .returned (.bool true) ∧ Below w.heap.size w w' := by
  have CW : Hid _ := works_any w T
  have TS : Hid (Tabs w.heap.size w) := tabs_of T
  obtain ⟨ao, cap, rfl, hrow⟩ := h.row
  have HA : Hid (ActRow w (.slice ao l.length cap) l) := h
  clear h hrow T
  by_cases hl3 : 300 < l.length
  · have hlz : (300 : Int) < (l.length : Int) := by omega
    go_enter Tryd.func4, Tryd.ntmps4
    go_wp2_with fail
    refine Calls.mono CW.out ?_
    rintro e w1 ⟨rfl, b1⟩
    have S1 : Hid (Sep w.heap.size w w1 []) := Sep.nil b1.size b1
    clear b1 CW
    go_wp2
    go_ret
    exact ⟨rfl, S1.out.bel⟩
  · have hlz : ¬ (300 : Int) < (l.length : Int) := by omega
    have CZ : Hid (∀ u, Calls Tryd.prog 20 #[.string ⟨#[]⟩] u fun e w' => e = .returned (.string zeroS) ∧ u = w') := fun u => by
      have := full_c ⟨#[]⟩ (by decide) u
      rw [full_none] at this
      exact this
    have K0 : Hid _ := Kp.new
    have SZ0 : ∀ u (f b rt rk rb : Nat), Sep w.heap.size w u [RowR 4 (.slice (some ⟨rt, 0, none⟩) 12 12) ((List.replicate 12 false).map .bool), RowR 33 (.slice (some ⟨rk, 0, none⟩) 12 12) ((List.replicate 12 (0 : UInt8)).map kdV), RowR 9 (.slice (some ⟨rb, 0, none⟩) 12 12) ((List.replicate 12 ByteArray.empty).map .string), File f b (Dk.new 12)] →
        Sep w.heap.size w (u.alloc (.cells #[.string zeroS, .string zeroS] 9)) [File f b (Dk.new 12), RowR 4 (.slice (some ⟨rt, 0, none⟩) 12 12) ((List.replicate 12 false).map .bool), RowR 33 (.slice (some ⟨rk, 0, none⟩) 12 12) ((List.replicate 12 (0 : UInt8)).map kdV), RowR 9 (.slice (some ⟨rb, 0, none⟩) 12 12) ((List.replicate 12 ByteArray.empty).map .string), RowR 9 (.slice (some ⟨u.heap.size, 0, none⟩) 2 2) ([zeroS, zeroS].map .string)] := fun u f b rt rk rb hu =>
      (hu.up3.addRow 9 ([zeroS, zeroS].map Value.string) 2 rfl (by decide)).dn4
    have SZ : Hid _ := SZ0
    clear SZ0
    generalize zeroS = z at *
    go_enter Tryd.func4, Tryd.ntmps4
    go_wp2_with fail
    refine Calls.mono CW.out ?_
    rintro e w1 ⟨rfl, b1⟩
    have S1 : Hid (Sep w.heap.size w w1 []) := Sep.nil b1.size b1
    clear b1 CW
    have CN : Hid _ := new_s 12 S1.out
    go_wp2_with fail
    refine Calls.mono CN.out ?_
    rintro e w2 ⟨b, rfl, s2⟩
    have CF : Hid _ := new_f s2
    clear s2 CN
    go_wp2_with fail
    refine Calls.mono CF.out ?_
    rintro e w3 ⟨f, rfl, s3⟩
    have hmk := make12s w3
    have S4 : Sep w.heap.size w (w3.alloc (.cells ((List.replicate 12 ByteArray.empty).map Value.string).toArray 9)) [RowR 9 (.slice (some ⟨w3.heap.size, 0, none⟩) 12 12) ((List.replicate 12 ByteArray.empty).map Value.string), File f b (Dk.new 12)] := s3.addRow _ _ 12 rfl (by decide)
    obtain ⟨w4, e4⟩ : ∃ u, u = w3.alloc (.cells ((List.replicate 12 ByteArray.empty).map Value.string).toArray 9) := ⟨_, rfl⟩
    obtain ⟨rb, erb⟩ : ∃ u, u = w3.heap.size := ⟨_, rfl⟩
    rw [← e4, ← erb] at hmk S4
    have hmk2 := make12k w4
    have S5 : Sep w.heap.size w (w4.alloc (.cells ((List.replicate 12 (0 : UInt8)).map kdV).toArray 33)) [RowR 33 (.slice (some ⟨w4.heap.size, 0, none⟩) 12 12) ((List.replicate 12 (0 : UInt8)).map kdV), RowR 9 (.slice (some ⟨rb, 0, none⟩) 12 12) ((List.replicate 12 ByteArray.empty).map Value.string), File f b (Dk.new 12)] := S4.addRow _ _ 12 rfl (by decide)
    obtain ⟨w5, e5⟩ : ∃ u, u = w4.alloc (.cells ((List.replicate 12 (0 : UInt8)).map kdV).toArray 33) := ⟨_, rfl⟩
    obtain ⟨rk, erk⟩ : ∃ u, u = w4.heap.size := ⟨_, rfl⟩
    rw [← e5, ← erk] at hmk2 S5
    have hmk3 := make12b w5
    have S6 : Sep w.heap.size w (w5.alloc (.cells ((List.replicate 12 false).map Value.bool).toArray 4)) [RowR 4 (.slice (some ⟨w5.heap.size, 0, none⟩) 12 12) ((List.replicate 12 false).map Value.bool), RowR 33 (.slice (some ⟨rk, 0, none⟩) 12 12) ((List.replicate 12 (0 : UInt8)).map kdV), RowR 9 (.slice (some ⟨rb, 0, none⟩) 12 12) ((List.replicate 12 ByteArray.empty).map Value.string), File f b (Dk.new 12)] := S5.addRow _ _ 12 rfl (by decide)
    obtain ⟨w6, e6⟩ : ∃ u, u = w5.alloc (.cells ((List.replicate 12 false).map Value.bool).toArray 4) := ⟨_, rfl⟩
    obtain ⟨rt, ert⟩ : ∃ u, u = w5.heap.size := ⟨_, rfl⟩
    rw [← e6, ← ert] at hmk3 S6
    have S7 : Hid _ := SZ.out w6 f b rt rk rb S6
    generalize Dk.new 12 = dn at *
    generalize List.replicate 12 ByteArray.empty = bo0 at *
    generalize List.replicate 12 false = th0 at *
    generalize List.replicate 12 (0 : UInt8) = ki0 at *
    have CZ1 : Hid _ := CZ.out w6
    clear s3 CF S4 S5 S6 e4 erb e5 erk e6 ert S1 SZ CZ
    go_wp2_with fail
    refine Calls.mono CZ1.out ?_
    rintro e wz ⟨rfl, rfl⟩
    go_wp2_with fail
    refine Calls.mono CZ1.out ?_
    rintro e wz ⟨rfl, rfl⟩
    clear CZ1
    obtain ⟨w7, e7⟩ : ∃ u, u = w6.alloc (.cells #[.string z, .string z] 9) := ⟨_, rfl⟩
    obtain ⟨rs, ers⟩ : ∃ u, u = w6.heap.size := ⟨_, rfl⟩
    go_wp2
    rw [← e7, ← ers] at S7
    rw [← e7, ← ers]
    clear e7 ers hmk hmk2 hmk3
    go_loopg [9] l.length (fun gk s9 wr => ∃ (t : Nat) (d : Dk) (bodies : List ByteArray) (kinds : List UInt8) (there : List Bool) (slots : List ByteArray), s9 = .int .i64 t ∧ t ≤ l.length ∧ l.length - t ≤ gk ∧ Hid (Kp d bodies kinds there slots t) ∧ Aside (Sep w.heap.size w wr [File f b d, RowR 4 (.slice (some ⟨rt, 0, none⟩) 12 12) (there.map .bool), RowR 33 (.slice (some ⟨rk, 0, none⟩) 12 12) (kinds.map kdV), RowR 9 (.slice (some ⟨rb, 0, none⟩) 12 12) (bodies.map .string), RowR 9 (.slice (some ⟨rs, 0, none⟩) 2 2) (slots.map .string)]))
    case atStart => exact ⟨0, dn, bo0, ki0, th0, [z, z], rfl, Nat.zero_le _, Nat.le_refl _, K0, S7.out⟩
    case round =>
      clear S7 K0
      obtain ⟨t, d, bodies, kinds, there, slots, rfl, ht, hgt, HI, S⟩ := hrel
      by_cases htl : t < l.length
      · have htz : (t : Int) < (l.length : Int) := by omega
        obtain ⟨r, o, rfl, hr, x0, x1, x2, x3, hsz, hi63⟩ := HA.out.at S.out.bel (Nat.le_refl _) htl
        obtain ⟨A, hA⟩ : ∃ A, l.getD t a0 = A := ⟨_, rfl⟩
        rw [hA] at x0 x1 x2 x3 hsz hi63
        clear hA
        obtain ⟨ak, ai, akd, sa⟩ := A
        dsimp only at x0 x1 x2 x3 hsz hi63
        have SZ : Hid (sa.size ≤ maxLen) := hsz
        have AL : Hid (Sep w.heap.size w (wr.alloc (.cells #[.int .i64 ak, .int .i64 ai, .int .u8 (akd.toNat : Int), .string sa] 35)) [File f b d, Blk wr.heap.size (.cells #[.int .i64 ak, .int .i64 ai, .int .u8 (akd.toNat : Int), .string sa] 35), RowR 4 (.slice (some ⟨rt, 0, none⟩) 12 12) (there.map .bool), RowR 33 (.slice (some ⟨rk, 0, none⟩) 12 12) (kinds.map kdV), RowR 9 (.slice (some ⟨rb, 0, none⟩) 12 12) (bodies.map .string), RowR 9 (.slice (some ⟨rs, 0, none⟩) 2 2) (slots.map .string)]) := (S.out.addBlk (.cells #[.int .i64 ak, .int .i64 ai, .int .u8 (akd.toNat : Int), .string sa] 35)).up1
        unfold maxLen at hsz
        clear hi63
        by_cases hs3 : 300 < sa.size
        · have hsz3 : (300 : Int) < (sa.size : Int) := by omega
          go_wp2
          go_ret
          exact ⟨rfl, AL.out.bel⟩
        · have hsz3 : ¬ (300 : Int) < (sa.size : Int) := by omega
          go_upto_region 15 with fail
          generalize wr.alloc (.cells #[.int .i64 ak, .int .i64 ai, .int .u8 (akd.toNat : Int), .string sa] 35) = wa at *
          generalize wr.heap.size = q at *
          obtain ⟨a0c, a1c, a2c, a3c, ltq⟩ := act_cells AL.out.up1.blk
          clear x0 x1 x2 x3 hr S
          by_cases hk3 : Int.tmod ak 3 = 0
          · have Dst : Hid _ := HI.out.up.putSlot (by decide) ai (fullS sa) (fullS_size _)
            have CP0 : ∀ u, Sep w.heap.size w u [File f b d, Blk q (.cells #[.int .i64 ak, .int .i64 ai, .int .u8 (akd.toNat : Int), .string sa] 35), RowR 4 (.slice (some ⟨rt, 0, none⟩) 12 12) (there.map .bool), RowR 33 (.slice (some ⟨rk, 0, none⟩) 12 12) (kinds.map kdV), RowR 9 (.slice (some ⟨rb, 0, none⟩) 12 12) (bodies.map .string), RowR 9 (.slice (some ⟨rs, 0, none⟩) 2 2) (slots.map .string)] → Calls Tryd.prog 19 #[ptr f, .int .i64 ai, .string (fullS sa)] u fun e w' => e = .returned (.int .i64 (d.putSlot ai (fullS sa)).1) ∧ Sep w.heap.size w w' [File f b (d.putSlot ai (fullS sa)).2, Blk q (.cells #[.int .i64 ak, .int .i64 ai, .int .u8 (akd.toNat : Int), .string sa] 35), RowR 4 (.slice (some ⟨rt, 0, none⟩) 12 12) (there.map .bool), RowR 33 (.slice (some ⟨rk, 0, none⟩) 12 12) (kinds.map kdV), RowR 9 (.slice (some ⟨rb, 0, none⟩) 12 12) (bodies.map .string), RowR 9 (.slice (some ⟨rs, 0, none⟩) 2 2) (slots.map .string)] := fun u hu => putSlot_f hu ai (fullS sa) (by rw [fullS_size]; decide) (by have := HI.out.pl; omega)
            have CFl : Hid (∀ u, Calls Tryd.prog 20 #[.string sa] u fun e w' => e = .returned (.string (fullS sa)) ∧ u = w') := fun u => full_c sa SZ.out u
            generalize (d.putSlot ai (fullS sa)).1 = er at Dst CP0
            generalize (d.putSlot ai (fullS sa)).2 = d2 at Dst CP0
            generalize fullS sa = fs at *
            have CP : Hid _ := CP0
            have SD : Hid (Sep w.heap.size w wa.drew [File f b d, Blk q (.cells #[.int .i64 ak, .int .i64 ai, .int .u8 (akd.toNat : Int), .string sa] 35), RowR 4 (.slice (some ⟨rt, 0, none⟩) 12 12) (there.map .bool), RowR 33 (.slice (some ⟨rk, 0, none⟩) 12 12) (kinds.map kdV), RowR 9 (.slice (some ⟨rb, 0, none⟩) 12 12) (bodies.map .string), RowR 9 (.slice (some ⟨rs, 0, none⟩) 2 2) (slots.map .string)]) := AL.out.drew
            clear CP0
            go_wp2
            go_region_held3 (fun w' => w'.cell? ⟨q, 1, none⟩ = some (.int .i64 ai) ∧ w'.cell? ⟨q, 3, none⟩ = some (.string sa)) (first | assumption | exact ⟨a1c, a3c⟩) ((first | (go_at_call 20; refine Calls.mono (CFl.out _) ?_; rintro e wy ⟨rfl, rfl⟩) | (go_at_call 19; refine Calls.mono (CP.out _ SD.out) ?_; rintro e w4 ⟨rfl, sx⟩; obtain ⟨_, z1, _, z3, _⟩ := act_cells sx.up1.blk; have hS := And.intro z1 z3; have SX : Hid (Sep w.heap.size w w4 [File f b d2, Blk q (.cells #[.int .i64 ak, .int .i64 ai, .int .u8 (akd.toNat : Int), .string sa] 35), RowR 4 (.slice (some ⟨rt, 0, none⟩) 12 12) (there.map .bool), RowR 33 (.slice (some ⟨rk, 0, none⟩) 12 12) (kinds.map kdV), RowR 9 (.slice (some ⟨rb, 0, none⟩) 12 12) (bodies.map .string), RowR 9 (.slice (some ⟨rs, 0, none⟩) 2 2) (slots.map .string)]) := sx; clear sx z1 z3)))
            all_goals
              clear CP SD AL a0c a1c a2c a3c ltq
              obtain ⟨b0c, b1c, b2c, b3c, ltq⟩ := act_cells SX.out.up1.blk
              rcases Dst.out with ⟨rfl, p1, p2, p4, p5, p6⟩ | ⟨p1, p2⟩
              · obtain ⟨i, rfl⟩ : ∃ i : Nat, ai = i := ⟨ai.toNat, by omega⟩
                have hi2 : i < 2 := by omega
                have hiz : (i : Int) < 2 := by omega
                have hi0 : (0 : Int) ≤ (i : Int) := by omega
                have ls : slots.length = 2 := HI.out.sl
                have I6 : Hid (Kp d2 bodies kinds there (slots.set i fs) (t + 1)) := HI.out.slot p4 hi2 p5 p6
                have y6 : w4.cell? ⟨rs, i, none⟩ = some (.string (sAt slots i)) := Sep.str_at SX.out.up5 (by omega)
                have g6 : w4.frozen? ⟨rs, i, none⟩ = false := Sep.str_fz SX.out.up5 (by omega)
                have S7 : Hid (Sep w.heap.size w (w4.setCell ⟨rs, i, none⟩ (.string fs)) [File f b d2, Blk q (.cells #[.int .i64 ak, .int .i64 (i : Int), .int .u8 (akd.toNat : Int), .string sa] 35), RowR 4 (.slice (some ⟨rt, 0, none⟩) 12 12) (there.map .bool), RowR 33 (.slice (some ⟨rk, 0, none⟩) 12 12) (kinds.map kdV), RowR 9 (.slice (some ⟨rb, 0, none⟩) 12 12) (bodies.map .string), RowR 9 (.slice (some ⟨rs, 0, none⟩) 2 2) ((slots.set i fs).map .string)]) := (Sep.str_set SX.out.up5 (by omega) ls).dn5
                have S8 : Hid (Sep w.heap.size w (w4.setCell ⟨rs, i, none⟩ (.string fs)).drew [File f b d2, Blk q (.cells #[.int .i64 ak, .int .i64 (i : Int), .int .u8 (akd.toNat : Int), .string sa] 35), RowR 4 (.slice (some ⟨rt, 0, none⟩) 12 12) (there.map .bool), RowR 33 (.slice (some ⟨rk, 0, none⟩) 12 12) (kinds.map kdV), RowR 9 (.slice (some ⟨rb, 0, none⟩) 12 12) (bodies.map .string), RowR 9 (.slice (some ⟨rs, 0, none⟩) 2 2) ((slots.set i fs).map .string)]) := S7.out.drew
                obtain ⟨_, k1, _, k3, _⟩ := act_cells S8.out.up1.blk
                clear Dst p1 p2 p4 p5 p6 HI S7
                go_wp2
                go_region_held3 (fun w' => w'.cell? ⟨q, 1, none⟩ = some (.int .i64 i) ∧ w'.cell? ⟨q, 3, none⟩ = some (.string sa)) (first | assumption | exact ⟨b1c, b3c⟩ | exact ⟨k1, k3⟩) ((go_at_call 20; refine Calls.mono (CFl.out _) ?_; rintro e wy ⟨rfl, rfl⟩))
                all_goals
                  clear b0c b1c b2c b3c ltq y6 g6 SX CFl hS k1 k3
                  generalize (w4.setCell ⟨rs, i, none⟩ (.string fs)).drew = w6 at *
                  obtain ⟨f0c, _, _, _, ltf⟩ := act_cells S8.out.up1.blk
                  by_cases hk5 : Int.tmod ak 5 = 0
                  · have CS0 := sync_f S8.out (by have := I6.out.pl; omega)
                    rw [(I6.out.up.sync S8.out.fok).1] at CS0
                    have I7 : Hid (Kp d2.sync.2 bodies kinds there (slots.set i fs) (t + 1)) := I6.out.sync S8.out.fok
                    generalize d2.sync.2 = d7 at CS0 I7
                    have CS : Hid _ := CS0
                    clear CS0
                    go_wp2_with fail
                    refine Calls.mono CS.out ?_
                    rintro e w17 ⟨rfl, s7⟩
                    have S17 : Hid (Sep w.heap.size w w17 [File f b d7, Blk q (.cells #[.int .i64 ak, .int .i64 (i : Int), .int .u8 (akd.toNat : Int), .string sa] 35), RowR 4 (.slice (some ⟨rt, 0, none⟩) 12 12) (there.map .bool), RowR 33 (.slice (some ⟨rk, 0, none⟩) 12 12) (kinds.map kdV), RowR 9 (.slice (some ⟨rb, 0, none⟩) 12 12) (bodies.map .string), RowR 9 (.slice (some ⟨rs, 0, none⟩) 2 2) ((slots.set i fs).map .string)]) := s7
                    clear s7 CS S8
                    go_wp2
                    go_roundg (l.length - (t + 1))
                    case measure => omega
                    case rel => exact ⟨t + 1, d7, bodies, kinds, there, (slots.set i fs), by go_num, by omega, Nat.le_refl _, I7, S17.out.up1.drop⟩
                  · have nk5 : (Int.tmod ak 5 == 0) = false := beq_eq_false_iff_ne.2 hk5
                    go_wp2
                    go_roundg (l.length - (t + 1))
                    case measure => omega
                    case rel => exact ⟨t + 1, d2, bodies, kinds, there, (slots.set i fs), by go_num, by omega, Nat.le_refl _, I6, S8.out.up1.drop⟩
              · subst p2
                have hne : (er == 0) = false := beq_eq_false_iff_ne.2 p1
                have I6 : Hid (Kp d2 bodies kinds there slots (t + 1)) := HI.out.more
                clear Dst p1 HI hS CFl
                obtain ⟨f0c, _, _, _, ltf⟩ := act_cells SX.out.up1.blk
                by_cases hk5 : Int.tmod ak 5 = 0
                · have CS0 := sync_f SX.out (by have := I6.out.pl; omega)
                  rw [(I6.out.up.sync SX.out.fok).1] at CS0
                  have I7 : Hid (Kp d2.sync.2 bodies kinds there slots (t + 1)) := I6.out.sync SX.out.fok
                  generalize d2.sync.2 = d7 at CS0 I7
                  have CS : Hid _ := CS0
                  clear CS0
                  go_wp2_with fail
                  refine Calls.mono CS.out ?_
                  rintro e w17 ⟨rfl, s7⟩
                  have S17 : Hid (Sep w.heap.size w w17 [File f b d7, Blk q (.cells #[.int .i64 ak, .int .i64 ai, .int .u8 (akd.toNat : Int), .string sa] 35), RowR 4 (.slice (some ⟨rt, 0, none⟩) 12 12) (there.map .bool), RowR 33 (.slice (some ⟨rk, 0, none⟩) 12 12) (kinds.map kdV), RowR 9 (.slice (some ⟨rb, 0, none⟩) 12 12) (bodies.map .string), RowR 9 (.slice (some ⟨rs, 0, none⟩) 2 2) (slots.map .string)]) := s7
                  clear s7 CS SX
                  go_wp2
                  go_roundg (l.length - (t + 1))
                  case measure => omega
                  case rel => exact ⟨t + 1, d7, bodies, kinds, there, slots, by go_num, by omega, Nat.le_refl _, I7, S17.out.up1.drop⟩
                · have nk5 : (Int.tmod ak 5 == 0) = false := beq_eq_false_iff_ne.2 hk5
                  go_wp2
                  go_roundg (l.length - (t + 1))
                  case measure => omega
                  case rel => exact ⟨t + 1, d2, bodies, kinds, there, slots, by go_num, by omega, Nat.le_refl _, I6, SX.out.up1.drop⟩
          · have nk3 : (Int.tmod ak 3 == 0) = false := beq_eq_false_iff_ne.2 hk3
            have Dst : Hid _ := HI.out.up.wr ai akd sa
            have CP0 : ∀ u, Sep w.heap.size w u [File f b d, Blk q (.cells #[.int .i64 ak, .int .i64 ai, .int .u8 (akd.toNat : Int), .string sa] 35), RowR 4 (.slice (some ⟨rt, 0, none⟩) 12 12) (there.map .bool), RowR 33 (.slice (some ⟨rk, 0, none⟩) 12 12) (kinds.map kdV), RowR 9 (.slice (some ⟨rb, 0, none⟩) 12 12) (bodies.map .string), RowR 9 (.slice (some ⟨rs, 0, none⟩) 2 2) (slots.map .string)] → Calls Tryd.prog 13 #[ptr f, .int .i64 ai, .int .u8 (akd.toNat : Int), .string sa] u fun e w' => e = .returned (.int .i64 (d.wr ai akd sa).1) ∧ Sep w.heap.size w w' [File f b (d.wr ai akd sa).2, Blk q (.cells #[.int .i64 ak, .int .i64 ai, .int .u8 (akd.toNat : Int), .string sa] 35), RowR 4 (.slice (some ⟨rt, 0, none⟩) 12 12) (there.map .bool), RowR 33 (.slice (some ⟨rk, 0, none⟩) 12 12) (kinds.map kdV), RowR 9 (.slice (some ⟨rb, 0, none⟩) 12 12) (bodies.map .string), RowR 9 (.slice (some ⟨rs, 0, none⟩) 2 2) (slots.map .string)] := fun u hu => write_f TS.out hu ai akd sa SZ.out (by have := HI.out.pl; omega)
            generalize (d.wr ai akd sa).1 = er at Dst CP0
            generalize (d.wr ai akd sa).2 = d2 at Dst CP0
            have CP : Hid _ := CP0 wa AL.out
            clear CP0
            go_wp2_with fail
            refine Calls.mono CP.out ?_
            rintro e w4 ⟨rfl, s4⟩
            have SX : Hid (Sep w.heap.size w w4 [File f b d2, Blk q (.cells #[.int .i64 ak, .int .i64 ai, .int .u8 (akd.toNat : Int), .string sa] 35), RowR 4 (.slice (some ⟨rt, 0, none⟩) 12 12) (there.map .bool), RowR 33 (.slice (some ⟨rk, 0, none⟩) 12 12) (kinds.map kdV), RowR 9 (.slice (some ⟨rb, 0, none⟩) 12 12) (bodies.map .string), RowR 9 (.slice (some ⟨rs, 0, none⟩) 2 2) (slots.map .string)]) := s4
            clear s4 CP AL a0c a1c a2c a3c ltq
            obtain ⟨b0c, b1c, b2c, b3c, ltq⟩ := act_cells SX.out.up1.blk
            rcases Dst.out with ⟨rfl, p1, p2, p3, p4, p5, p6⟩ | ⟨p1, p2, p3⟩
            · obtain ⟨i, rfl⟩ : ∃ i : Nat, ai = i := ⟨ai.toNat, by omega⟩
              have hi12 : i < 12 := by omega
              have hi2 : 2 ≤ i := by omega
              have hiz : (i : Int) < 12 := by omega
              have hi2z : (2 : Int) ≤ (i : Int) := by omega
              have hi0 : (0 : Int) ≤ (i : Int) := by omega
              have hzz : (sa.size : Int) ≤ 240 := by omega
              have lb := HI.out.pg.bl
              have lk := HI.out.pg.kl
              have lt := HI.out.pg.tl
              have I6 : Hid (Kp d2 (bodies.set i sa) (kinds.set i akd) (there.set i true) slots (t + 1)) := HI.out.page p4 hi2 hi12 p3 p5 p6
              have y6 : w4.cell? ⟨rb, i, none⟩ = some (.string (sAt bodies i)) := Sep.str_at SX.out.up4 (by omega)
              have g6 : w4.frozen? ⟨rb, i, none⟩ = false := Sep.str_fz SX.out.up4 (by omega)
              have S5 : Hid (Sep w.heap.size w (w4.setCell ⟨rb, i, none⟩ (.string sa)) [File f b d2, Blk q (.cells #[.int .i64 ak, .int .i64 (i : Int), .int .u8 (akd.toNat : Int), .string sa] 35), RowR 4 (.slice (some ⟨rt, 0, none⟩) 12 12) (there.map .bool), RowR 33 (.slice (some ⟨rk, 0, none⟩) 12 12) (kinds.map kdV), RowR 9 (.slice (some ⟨rb, 0, none⟩) 12 12) ((bodies.set i sa).map .string), RowR 9 (.slice (some ⟨rs, 0, none⟩) 2 2) (slots.map .string)]) := (Sep.str_set SX.out.up4 (by omega) lb).dn4
              clear Dst p1 p2 p3 p4 p5 p6 HI
              go_upto_region 26 with fail
              generalize w4.setCell ⟨rb, i, none⟩ (.string sa) = w5 at *
              clear b0c b1c b2c b3c ltq y6 g6 SX
              obtain ⟨b0c, b1c, b2c, b3c, ltq⟩ := act_cells S5.out.up1.blk
              obtain ⟨y6, g6⟩ := Sep.kind_at S5.out.up3 (i := i) (by omega)
              have S6 : Hid (Sep w.heap.size w (w5.setCell ⟨rk, i, none⟩ (.int .u8 (akd.toNat : Int))) [File f b d2, Blk q (.cells #[.int .i64 ak, .int .i64 (i : Int), .int .u8 (akd.toNat : Int), .string sa] 35), RowR 4 (.slice (some ⟨rt, 0, none⟩) 12 12) (there.map .bool), RowR 33 (.slice (some ⟨rk, 0, none⟩) 12 12) ((kinds.set i akd).map kdV), RowR 9 (.slice (some ⟨rb, 0, none⟩) 12 12) ((bodies.set i sa).map .string), RowR 9 (.slice (some ⟨rs, 0, none⟩) 2 2) (slots.map .string)]) := (Sep.kind_set S5.out.up3 (by omega) lk).dn3
              go_upto_region 27 with fail
              generalize w5.setCell ⟨rk, i, none⟩ (.int .u8 (akd.toNat : Int)) = w6 at *
              clear b0c b1c b2c b3c ltq y6 g6 S5
              obtain ⟨b0c, b1c, b2c, b3c, ltq⟩ := act_cells S6.out.up1.blk
              obtain ⟨y6, g6⟩ := Sep.bool_at S6.out.up2 (i := i) (by omega)
              have S7 : Hid (Sep w.heap.size w (w6.setCell ⟨rt, i, none⟩ (.bool true)) [File f b d2, Blk q (.cells #[.int .i64 ak, .int .i64 (i : Int), .int .u8 (akd.toNat : Int), .string sa] 35), RowR 4 (.slice (some ⟨rt, 0, none⟩) 12 12) ((there.set i true).map .bool), RowR 33 (.slice (some ⟨rk, 0, none⟩) 12 12) ((kinds.set i akd).map kdV), RowR 9 (.slice (some ⟨rb, 0, none⟩) 12 12) ((bodies.set i sa).map .string), RowR 9 (.slice (some ⟨rs, 0, none⟩) 2 2) (slots.map .string)]) := (Sep.bool_set S6.out.up2 (by omega) lt).dn2
              go_upto_region 28 with fail
              generalize w6.setCell ⟨rt, i, none⟩ (.bool true) = w7 at *
              clear b0c b1c b2c b3c ltq y6 g6 S6
              obtain ⟨f0c, _, _, _, ltf⟩ := act_cells S7.out.up1.blk
              by_cases hk5 : Int.tmod ak 5 = 0
              · have CS0 := sync_f S7.out (by have := I6.out.pl; omega)
                rw [(I6.out.up.sync S7.out.fok).1] at CS0
                have I7 : Hid (Kp d2.sync.2 (bodies.set i sa) (kinds.set i akd) (there.set i true) slots (t + 1)) := I6.out.sync S7.out.fok
                generalize d2.sync.2 = d7 at CS0 I7
                have CS : Hid _ := CS0
                clear CS0
                go_wp2_with fail
                refine Calls.mono CS.out ?_
                rintro e w17 ⟨rfl, s7⟩
                have S17 : Hid (Sep w.heap.size w w17 [File f b d7, Blk q (.cells #[.int .i64 ak, .int .i64 (i : Int), .int .u8 (akd.toNat : Int), .string sa] 35), RowR 4 (.slice (some ⟨rt, 0, none⟩) 12 12) ((there.set i true).map .bool), RowR 33 (.slice (some ⟨rk, 0, none⟩) 12 12) ((kinds.set i akd).map kdV), RowR 9 (.slice (some ⟨rb, 0, none⟩) 12 12) ((bodies.set i sa).map .string), RowR 9 (.slice (some ⟨rs, 0, none⟩) 2 2) (slots.map .string)]) := s7
                clear s7 CS S7
                go_wp2
                go_roundg (l.length - (t + 1))
                case measure => omega
                case rel => exact ⟨t + 1, d7, (bodies.set i sa), (kinds.set i akd), (there.set i true), slots, by go_num, by omega, Nat.le_refl _, I7, S17.out.up1.drop⟩
              · have nk5 : (Int.tmod ak 5 == 0) = false := beq_eq_false_iff_ne.2 hk5
                go_wp2
                go_roundg (l.length - (t + 1))
                case measure => omega
                case rel => exact ⟨t + 1, d2, (bodies.set i sa), (kinds.set i akd), (there.set i true), slots, by go_num, by omega, Nat.le_refl _, I6, S7.out.up1.drop⟩
            · subst p2
              have hne : (er == 0) = false := beq_eq_false_iff_ne.2 p1
              have I6 : Hid (Kp d2 bodies kinds there slots (t + 1)) := HI.out.more
              clear Dst p1 HI
              by_cases c1 : 2 ≤ ai
              · by_cases c2 : ai < 12
                · have c3 : ¬ (sa.size : Int) ≤ 240 := by omega
                  clear p3
                  obtain ⟨f0c, _, _, _, ltf⟩ := act_cells SX.out.up1.blk
                  by_cases hk5 : Int.tmod ak 5 = 0
                  · have CS0 := sync_f SX.out (by have := I6.out.pl; omega)
                    rw [(I6.out.up.sync SX.out.fok).1] at CS0
                    have I7 : Hid (Kp d2.sync.2 bodies kinds there slots (t + 1)) := I6.out.sync SX.out.fok
                    generalize d2.sync.2 = d7 at CS0 I7
                    have CS : Hid _ := CS0
                    clear CS0
                    go_wp2_with fail
                    refine Calls.mono CS.out ?_
                    rintro e w17 ⟨rfl, s7⟩
                    have S17 : Hid (Sep w.heap.size w w17 [File f b d7, Blk q (.cells #[.int .i64 ak, .int .i64 ai, .int .u8 (akd.toNat : Int), .string sa] 35), RowR 4 (.slice (some ⟨rt, 0, none⟩) 12 12) (there.map .bool), RowR 33 (.slice (some ⟨rk, 0, none⟩) 12 12) (kinds.map kdV), RowR 9 (.slice (some ⟨rb, 0, none⟩) 12 12) (bodies.map .string), RowR 9 (.slice (some ⟨rs, 0, none⟩) 2 2) (slots.map .string)]) := s7
                    clear s7 CS SX
                    go_wp2
                    go_roundg (l.length - (t + 1))
                    case measure => omega
                    case rel => exact ⟨t + 1, d7, bodies, kinds, there, slots, by go_num, by omega, Nat.le_refl _, I7, S17.out.up1.drop⟩
                  · have nk5 : (Int.tmod ak 5 == 0) = false := beq_eq_false_iff_ne.2 hk5
                    go_wp2
                    go_roundg (l.length - (t + 1))
                    case measure => omega
                    case rel => exact ⟨t + 1, d2, bodies, kinds, there, slots, by go_num, by omega, Nat.le_refl _, I6, SX.out.up1.drop⟩
                · clear p3
                  obtain ⟨f0c, _, _, _, ltf⟩ := act_cells SX.out.up1.blk
                  by_cases hk5 : Int.tmod ak 5 = 0
                  · have CS0 := sync_f SX.out (by have := I6.out.pl; omega)
                    rw [(I6.out.up.sync SX.out.fok).1] at CS0
                    have I7 : Hid (Kp d2.sync.2 bodies kinds there slots (t + 1)) := I6.out.sync SX.out.fok
                    generalize d2.sync.2 = d7 at CS0 I7
                    have CS : Hid _ := CS0
                    clear CS0
                    go_wp2_with fail
                    refine Calls.mono CS.out ?_
                    rintro e w17 ⟨rfl, s7⟩
                    have S17 : Hid (Sep w.heap.size w w17 [File f b d7, Blk q (.cells #[.int .i64 ak, .int .i64 ai, .int .u8 (akd.toNat : Int), .string sa] 35), RowR 4 (.slice (some ⟨rt, 0, none⟩) 12 12) (there.map .bool), RowR 33 (.slice (some ⟨rk, 0, none⟩) 12 12) (kinds.map kdV), RowR 9 (.slice (some ⟨rb, 0, none⟩) 12 12) (bodies.map .string), RowR 9 (.slice (some ⟨rs, 0, none⟩) 2 2) (slots.map .string)]) := s7
                    clear s7 CS SX
                    go_wp2
                    go_roundg (l.length - (t + 1))
                    case measure => omega
                    case rel => exact ⟨t + 1, d7, bodies, kinds, there, slots, by go_num, by omega, Nat.le_refl _, I7, S17.out.up1.drop⟩
                  · have nk5 : (Int.tmod ak 5 == 0) = false := beq_eq_false_iff_ne.2 hk5
                    go_wp2
                    go_roundg (l.length - (t + 1))
                    case measure => omega
                    case rel => exact ⟨t + 1, d2, bodies, kinds, there, slots, by go_num, by omega, Nat.le_refl _, I6, SX.out.up1.drop⟩
              · clear p3
                obtain ⟨f0c, _, _, _, ltf⟩ := act_cells SX.out.up1.blk
                by_cases hk5 : Int.tmod ak 5 = 0
                · have CS0 := sync_f SX.out (by have := I6.out.pl; omega)
                  rw [(I6.out.up.sync SX.out.fok).1] at CS0
                  have I7 : Hid (Kp d2.sync.2 bodies kinds there slots (t + 1)) := I6.out.sync SX.out.fok
                  generalize d2.sync.2 = d7 at CS0 I7
                  have CS : Hid _ := CS0
                  clear CS0
                  go_wp2_with fail
                  refine Calls.mono CS.out ?_
                  rintro e w17 ⟨rfl, s7⟩
                  have S17 : Hid (Sep w.heap.size w w17 [File f b d7, Blk q (.cells #[.int .i64 ak, .int .i64 ai, .int .u8 (akd.toNat : Int), .string sa] 35), RowR 4 (.slice (some ⟨rt, 0, none⟩) 12 12) (there.map .bool), RowR 33 (.slice (some ⟨rk, 0, none⟩) 12 12) (kinds.map kdV), RowR 9 (.slice (some ⟨rb, 0, none⟩) 12 12) (bodies.map .string), RowR 9 (.slice (some ⟨rs, 0, none⟩) 2 2) (slots.map .string)]) := s7
                  clear s7 CS SX
                  go_wp2
                  go_roundg (l.length - (t + 1))
                  case measure => omega
                  case rel => exact ⟨t + 1, d7, bodies, kinds, there, slots, by go_num, by omega, Nat.le_refl _, I7, S17.out.up1.drop⟩
                · have nk5 : (Int.tmod ak 5 == 0) = false := beq_eq_false_iff_ne.2 hk5
                  go_wp2
                  go_roundg (l.length - (t + 1))
                  case measure => omega
                  case rel => exact ⟨t + 1, d2, bodies, kinds, there, slots, by go_num, by omega, Nat.le_refl _, I6, SX.out.up1.drop⟩
      · have htz : ¬ (t : Int) < (l.length : Int) := by omega
        have HI9 : Hid (Kp d bodies kinds there slots 300) := ⟨HI.out.up, HI.out.pg, HI.out.sl, HI.out.sn, by have := HI.out.pl; omega⟩
        clear HI
        go_wp2
        go_loopg [13] 12 (fun gk s13 wr => ∃ (u : Nat) (d : Dk), s13 = .int .i64 u ∧ 2 ≤ u ∧ u ≤ 12 ∧ 12 - u ≤ gk ∧ Hid (Kp d bodies kinds there slots 300) ∧ Aside (Sep w.heap.size w wr [File f b d, RowR 4 (.slice (some ⟨rt, 0, none⟩) 12 12) (there.map .bool), RowR 33 (.slice (some ⟨rk, 0, none⟩) 12 12) (kinds.map kdV), RowR 9 (.slice (some ⟨rb, 0, none⟩) 12 12) (bodies.map .string), RowR 9 (.slice (some ⟨rs, 0, none⟩) 2 2) (slots.map .string)]))
        case atStart => exact ⟨2, d, rfl, by omega, by omega, by omega, HI9, S⟩
        case round =>
          clear S HI9
          obtain ⟨u, d, rfl, hu2, hu, hgu, HI, S⟩ := hrel
          have lb := HI.out.pg.bl
          have lk := HI.out.pg.kl
          have lt := HI.out.pg.tl
          have ls : slots.length = 2 := HI.out.sl
          by_cases hul : u < 12
          · have huz : (u : Int) < 12 := by omega
            have hu0 : (0 : Int) ≤ (u : Int) := by omega
            have CR0 := read_f TS.out S.out (u : Int) (kAt kinds u)
            obtain ⟨g1, g2, g3, g4, g5⟩ := HI.out.up.rd u (kAt kinds u) hu2 hul
            rw [g1, HI.out.pg.open hu2 hul] at CR0
            have HI2 : Hid (Kp (d.rd u (kAt kinds u)).2 bodies kinds there slots 300) := HI.out.same g2 g3 g4
            obtain ⟨y7, _⟩ := Sep.kind_at S.out.up2 (i := u) (by omega)
            generalize (d.rd u (kAt kinds u)).2 = d2 at CR0 HI2
            clear g1 g2 g3 g4 g5
            generalize (kAt kinds u).toNat = K at *
            cases hbt : bAt there u with
            | true =>
              rw [hbt, if_pos rfl] at CR0
              have CR : Hid (Calls Tryd.prog 11 #[ptr f, .int .i64 u, .int .u8 (K : Int)] wr fun e w' => e = .returned (.tuple #[.string (sAt bodies u), .int .i64 0]) ∧ Sep w.heap.size w w' [File f b d2, RowR 4 (.slice (some ⟨rt, 0, none⟩) 12 12) (there.map .bool), RowR 33 (.slice (some ⟨rk, 0, none⟩) 12 12) (kinds.map kdV), RowR 9 (.slice (some ⟨rb, 0, none⟩) 12 12) (bodies.map .string), RowR 9 (.slice (some ⟨rs, 0, none⟩) 2 2) (slots.map .string)]) := CR0
              clear CR0 S
              go_wp2_with fail
              refine Calls.mono CR.out ?_
              rintro e w9 ⟨rfl, s9⟩
              have S9 : Aside (Sep w.heap.size w w9 [File f b d2, RowR 4 (.slice (some ⟨rt, 0, none⟩) 12 12) (there.map .bool), RowR 33 (.slice (some ⟨rk, 0, none⟩) 12 12) (kinds.map kdV), RowR 9 (.slice (some ⟨rb, 0, none⟩) 12 12) (bodies.map .string), RowR 9 (.slice (some ⟨rs, 0, none⟩) 2 2) (slots.map .string)]) := s9
              obtain ⟨y5, _⟩ := Sep.bool_at S9.out.up1 (i := u) (by omega)
              have y6 : w9.cell? ⟨rb, u, none⟩ = some (.string (sAt bodies u)) := Sep.str_at S9.out.up3 (by omega)
              rw [hbt] at y5
              generalize sAt bodies u = x at *
              clear s9 CR hbt y7
              go_wp2
              go_roundg (12 - (u + 1))
              case measure => omega
              case rel => exact ⟨u + 1, d2, by go_num, by omega, by omega, Nat.le_refl _, HI2, S9⟩
            | false =>
              rw [hbt, if_neg (by decide)] at CR0
              have CR : Hid (Calls Tryd.prog 11 #[ptr f, .int .i64 u, .int .u8 (K : Int)] wr fun e w' => e = .returned (.tuple #[.string ByteArray.empty, .int .i64 3]) ∧ Sep w.heap.size w w' [File f b d2, RowR 4 (.slice (some ⟨rt, 0, none⟩) 12 12) (there.map .bool), RowR 33 (.slice (some ⟨rk, 0, none⟩) 12 12) (kinds.map kdV), RowR 9 (.slice (some ⟨rb, 0, none⟩) 12 12) (bodies.map .string), RowR 9 (.slice (some ⟨rs, 0, none⟩) 2 2) (slots.map .string)]) := CR0
              clear CR0 S
              go_wp2_with fail
              refine Calls.mono CR.out ?_
              rintro e w9 ⟨rfl, s9⟩
              have S9 : Aside (Sep w.heap.size w w9 [File f b d2, RowR 4 (.slice (some ⟨rt, 0, none⟩) 12 12) (there.map .bool), RowR 33 (.slice (some ⟨rk, 0, none⟩) 12 12) (kinds.map kdV), RowR 9 (.slice (some ⟨rb, 0, none⟩) 12 12) (bodies.map .string), RowR 9 (.slice (some ⟨rs, 0, none⟩) 2 2) (slots.map .string)]) := s9
              obtain ⟨y5, _⟩ := Sep.bool_at S9.out.up1 (i := u) (by omega)
              rw [hbt] at y5
              clear s9 CR hbt y7
              go_wp2
              go_roundg (12 - (u + 1))
              case measure => omega
              case rel => exact ⟨u + 1, d2, by go_num, by omega, by omega, Nat.le_refl _, HI2, S9⟩
          · have huz : ¬ (u : Int) < 12 := by omega
            have CR0 : Calls Tryd.prog 17 #[ptr f, .int .i64 0] wr fun e w' => e = .returned (.tuple #[.string (sAt slots 0), .int .i64 0]) ∧ Sep w.heap.size w w' [File f b (d.slot 0).2, RowR 4 (.slice (some ⟨rt, 0, none⟩) 12 12) (there.map .bool), RowR 33 (.slice (some ⟨rk, 0, none⟩) 12 12) (kinds.map kdV), RowR 9 (.slice (some ⟨rb, 0, none⟩) 12 12) (bodies.map .string), RowR 9 (.slice (some ⟨rs, 0, none⟩) 2 2) (slots.map .string)] := by
              have := slot_f S.out 0
              obtain ⟨g1, _⟩ := HI.out.up.slot 0 (by decide) (by decide)
              rw [show d.slot 0 = d.slot ((0 : Nat) : Int) from rfl, g1, HI.out.sn 0 (by decide)] at this
              exact this
            have HI2 : Hid (Kp (d.slot 0).2 bodies kinds there slots 300) := by
              obtain ⟨_, g2, g3, g4, _⟩ := HI.out.up.slot 0 (by decide) (by decide)
              exact HI.out.same g2 g3 g4
            generalize (d.slot 0).2 = d2 at CR0 HI2
            have CR : Hid _ := CR0
            clear CR0 S HI
            go_wp2_with fail
            refine Calls.mono CR.out ?_
            rintro e w9 ⟨rfl, s9⟩
            have CR1 : Calls Tryd.prog 17 #[ptr f, .int .i64 1] w9 fun e w' => e = .returned (.tuple #[.string (sAt slots 1), .int .i64 0]) ∧ Sep w.heap.size w w' [File f b (d2.slot 1).2, RowR 4 (.slice (some ⟨rt, 0, none⟩) 12 12) (there.map .bool), RowR 33 (.slice (some ⟨rk, 0, none⟩) 12 12) (kinds.map kdV), RowR 9 (.slice (some ⟨rb, 0, none⟩) 12 12) (bodies.map .string), RowR 9 (.slice (some ⟨rs, 0, none⟩) 2 2) (slots.map .string)] := by
              have := slot_f s9 1
              obtain ⟨g1, _⟩ := HI2.out.up.slot 1 (by decide) (by decide)
              rw [show d2.slot 1 = d2.slot ((1 : Nat) : Int) from rfl, g1, HI2.out.sn 1 (by decide)] at this
              exact this
            generalize (d2.slot 1).2 = d3 at CR1
            have CRb : Hid _ := CR1
            clear CR1 s9 CR
            go_wp2_with fail
            refine Calls.mono CRb.out ?_
            rintro e w10 ⟨rfl, s10⟩
            have S10 : Hid (Sep w.heap.size w w10 [File f b d3, RowR 4 (.slice (some ⟨rt, 0, none⟩) 12 12) (there.map .bool), RowR 33 (.slice (some ⟨rk, 0, none⟩) 12 12) (kinds.map kdV), RowR 9 (.slice (some ⟨rb, 0, none⟩) 12 12) (bodies.map .string), RowR 9 (.slice (some ⟨rs, 0, none⟩) 2 2) (slots.map .string)]) := s10
            have y0 : w10.cell? ⟨rs, 0, none⟩ = some (.string (sAt slots 0)) := Sep.str_at S10.out.up4 (by omega)
            have y1 : w10.cell? ⟨rs, 1, none⟩ = some (.string (sAt slots 1)) := Sep.str_at S10.out.up4 (by omega)
            generalize sAt slots 0 = x0 at *
            generalize sAt slots 1 = x1 at *
            clear s10 CRb
            go_wp2
            go_ret
            exact ⟨rfl, S10.out.bel⟩

end Go.Proofs.YtkbakmgjplhjiaaDoor

/-
  The walk of the law PagefileSure.
-/
import Derived.Test.YtkbakmgjplhjiaaDoorPfUp
namespace Go.Proofs.YtkbakmgjplhjiaaDoor
open Go.RowKit
set_option linter.unusedVariables false

set_option maxHeartbeats 8000000 in
set_option maxRecDepth 100000 in
theorem sure_walk (v : Value) (l : List A1) (v2 : Value) (later : List A1) (w : World) (T : Tab w) (h : ActRow w v l) (h2 : ActRow w v2 later) :
    Calls Tryd.prog 6 #[v, v2] w fun e w' => e = .returned (.bool true) ∧ Below w.heap.size w w' := by
  have CW : Hid _ := works_any w T
  have TS : Hid (Tabs w.heap.size w) := tabs_of T
  obtain ⟨ao, cap, rfl, hrow⟩ := h.row
  have HA : Hid (ActRow w (.slice ao l.length cap) l) := h
  obtain ⟨ao2, cap2, rfl, hrow2⟩ := h2.row
  have HA2 : Hid (ActRow w (.slice ao2 later.length cap2) later) := h2
  clear h h2 hrow hrow2 T
  by_cases hl3 : 300 < l.length
  · have hlz : (300 : Int) < (l.length : Int) := by omega
    go_enter Tryd.func6, Tryd.ntmps6
    go_wp2_with fail
    refine Calls.mono CW.out ?_
    rintro e w1 ⟨rfl, b1⟩
    have S1 : Hid (Sep w.heap.size w w1 []) := Sep.nil b1.size b1
    clear b1 CW
    go_wp2
    go_ret
    exact ⟨rfl, S1.out.bel⟩
  · have hlz : ¬ (300 : Int) < (l.length : Int) := by omega
    by_cases hm3 : 300 < later.length
    · have hmz : (300 : Int) < (later.length : Int) := by omega
      go_enter Tryd.func6, Tryd.ntmps6
      go_wp2_with fail
      refine Calls.mono CW.out ?_
      rintro e w1 ⟨rfl, b1⟩
      have S1 : Hid (Sep w.heap.size w w1 []) := Sep.nil b1.size b1
      clear b1 CW
      go_wp2
      go_ret
      exact ⟨rfl, S1.out.bel⟩
    · have hmz : ¬ (300 : Int) < (later.length : Int) := by omega
      go_enter Tryd.func6, Tryd.ntmps6
      go_wp2_with fail
      refine Calls.mono CW.out ?_
      rintro e w1 ⟨rfl, b1⟩
      have S1 : Hid (Sep w.heap.size w w1 []) := Sep.nil b1.size b1
      clear b1 CW
      have CN : Hid _ := new_s 12 S1.out
      go_wp2_with fail
      refine Calls.mono CN.out ?_
      rintro e w2 ⟨b, rfl, s2⟩
      have CF : Hid _ := new_f s2
      clear s2 CN
      go_wp2_with fail
      refine Calls.mono CF.out ?_
      rintro e w3 ⟨f, rfl, s3⟩
      have hmk := make12s w3
      have S4 : Sep w.heap.size w (w3.alloc (.cells ((List.replicate 12 ByteArray.empty).map Value.string).toArray 9)) [RowR 9 (.slice (some ⟨w3.heap.size, 0, none⟩) 12 12) ((List.replicate 12 ByteArray.empty).map Value.string), File f b (Dk.new 12)] := s3.addRow _ _ 12 rfl (by decide)
      obtain ⟨w4, e4⟩ : ∃ u, u = w3.alloc (.cells ((List.replicate 12 ByteArray.empty).map Value.string).toArray 9) := ⟨_, rfl⟩
      obtain ⟨rb, erb⟩ : ∃ u, u = w3.heap.size := ⟨_, rfl⟩
      rw [← e4, ← erb] at hmk S4
      have hmk2 := make12b w4
      have S5 : Sep w.heap.size w (w4.alloc (.cells ((List.replicate 12 false).map Value.bool).toArray 4)) [RowR 4 (.slice (some ⟨w4.heap.size, 0, none⟩) 12 12) ((List.replicate 12 false).map Value.bool), RowR 9 (.slice (some ⟨rb, 0, none⟩) 12 12) ((List.replicate 12 ByteArray.empty).map Value.string), File f b (Dk.new 12)] := S4.addRow _ _ 12 rfl (by decide)
      obtain ⟨w5, e5⟩ : ∃ u, u = w4.alloc (.cells ((List.replicate 12 false).map Value.bool).toArray 4) := ⟨_, rfl⟩
      obtain ⟨rt, ert⟩ : ∃ u, u = w4.heap.size := ⟨_, rfl⟩
      rw [← e5, ← ert] at hmk2 S5
      have S6 : Hid (Sep w.heap.size w w5 [RowR 4 (.slice (some ⟨rt, 0, none⟩) 12 12) ((List.replicate 12 false).map .bool), RowR 9 (.slice (some ⟨rb, 0, none⟩) 12 12) ((List.replicate 12 ByteArray.empty).map .string), File f b (Dk.new 12)]) := S5
      have I0 : Hid (Up 12 (Dk.new 12) ∧ PagesL 1 (Dk.new 12) (List.replicate 12 ByteArray.empty) (List.replicate 12 false) ∧ (Dk.new 12).pend.length ≤ 0) := ⟨Up.new 12 (by omega), PagesL.new 1, Nat.le_refl _⟩
      generalize Dk.new 12 = dn at *
      generalize List.replicate 12 ByteArray.empty = bo0 at *
      generalize List.replicate 12 false = th0 at *
      clear s3 CF S4 S5 e4 erb e5 ert S1
      go_wp2
      clear hmk hmk2
      go_loopg [10] l.length (fun gk s10 wr => ∃ (t : Nat) (d : Dk) (bodies : List ByteArray) (there : List Bool), s10 = .int .i64 t ∧ t ≤ l.length ∧ l.length - t ≤ gk ∧ Hid (Up 12 d ∧ PagesL 1 d bodies there ∧ d.pend.length ≤ t) ∧ Aside (Sep w.heap.size w wr [RowR 4 (.slice (some ⟨rt, 0, none⟩) 12 12) (there.map .bool), RowR 9 (.slice (some ⟨rb, 0, none⟩) 12 12) (bodies.map .string), File f b d]))
      case atStart => exact ⟨0, dn, bo0, th0, rfl, Nat.zero_le _, Nat.le_refl _, I0, S6.out⟩
      case round =>
        clear S6 I0
        obtain ⟨t, d, bodies, there, rfl, ht, hgt, HI, S⟩ := hrel
        by_cases htl : t < l.length
        · have htz : (t : Int) < (l.length : Int) := by omega
          obtain ⟨r, o, rfl, hr, x0, x1, x2, x3, hsz, hi63⟩ := HA.out.at S.out.bel (Nat.le_refl _) htl
          obtain ⟨A, hA⟩ : ∃ A, l.getD t a0 = A := ⟨_, rfl⟩
          rw [hA] at x0 x1 x2 x3 hsz hi63
          have EA : Hid (l.getD t a0 = A) := hA
          have SZ : Hid (A.s.size ≤ maxLen) := hsz
          unfold maxLen at hsz
          clear hA x0 x2 hi63
          by_cases hs3 : 300 < A.s.size
          · have hsz3 : (300 : Int) < (A.s.size : Int) := by omega
            go_wp2
            go_ret
            exact ⟨rfl, S.out.bel⟩
          · have hsz3 : ¬ (300 : Int) < (A.s.size : Int) := by omega
            have Dst : Hid _ := HI.out.1.wr A.i 1 A.s
            have CW0 : ∀ u, Sep w.heap.size w u [RowR 4 (.slice (some ⟨rt, 0, none⟩) 12 12) (there.map .bool), RowR 9 (.slice (some ⟨rb, 0, none⟩) 12 12) (bodies.map .string), File f b d] → Calls Tryd.prog 13 #[ptr f, .int .i64 A.i, .int .u8 1, .string A.s] u fun e w' => e = .returned (.int .i64 (d.wr A.i 1 A.s).1) ∧ Sep w.heap.size w w' [RowR 4 (.slice (some ⟨rt, 0, none⟩) 12 12) (there.map .bool), RowR 9 (.slice (some ⟨rb, 0, none⟩) 12 12) (bodies.map .string), File f b (d.wr A.i 1 A.s).2] := fun u hu => (write_f TS.out hu.up2 A.i 1 A.s SZ.out (by have := HI.out.2.2; omega)).mono fun _ _ h => ⟨h.1, h.2.dn2⟩
            generalize (d.wr A.i 1 A.s).1 = er at Dst CW0
            generalize (d.wr A.i 1 A.s).2 = d2 at Dst CW0
            have CWr : Hid _ := CW0
            have SD : Hid (Sep w.heap.size w wr.drew [RowR 4 (.slice (some ⟨rt, 0, none⟩) 12 12) (there.map .bool), RowR 9 (.slice (some ⟨rb, 0, none⟩) 12 12) (bodies.map .string), File f b d]) := S.out.drew
            clear CW0
            go_wp2
            go_region_held3 (fun w' => w'.cell? ⟨r, o + t * 4 + 1, none⟩ = some (.int .i64 A.i) ∧ w'.cell? ⟨r, o + t * 4 + 3, none⟩ = some (.string A.s)) (first | assumption | exact ⟨x1, x3⟩) ((go_at_call 13; refine Calls.mono (CWr.out _ SD.out) ?_; rintro e w4 ⟨rfl, sx⟩; obtain ⟨z1, z3, hr4⟩ := HA.out.cells sx.bel (Nat.le_refl _) htl EA.out; have hS := And.intro z1 z3; have SX : Hid (Sep w.heap.size w w4 [RowR 4 (.slice (some ⟨rt, 0, none⟩) 12 12) (there.map .bool), RowR 9 (.slice (some ⟨rb, 0, none⟩) 12 12) (bodies.map .string), File f b d2]) := sx; clear sx))
            all_goals
              clear CWr S SD x1 x3 hr
              rcases Dst.out with ⟨rfl, p1, p2, p3, p4, p5, p6⟩ | ⟨p1, p2, p3⟩
              · obtain ⟨i, hi⟩ : ∃ i : Nat, A.i = i := ⟨A.i.toNat, by omega⟩
                have AI : Hid (A.i = i) := hi
                rw [hi] at p1 p2 p5
                have hi12 : i < 12 := by omega
                have hiz : (i : Int) < 12 := by omega
                have hi0 : (0 : Int) ≤ (i : Int) := by omega
                obtain ⟨lb, lt⟩ := HI.out.2.1.lens
                have I6 : Hid (Up 12 d2 ∧ PagesL 1 d2 (bodies.set i A.s) (there.set i true) ∧ d2.pend.length ≤ t + 1) := ⟨p4, HI.out.2.1.set hi12 p3 p5 p6, by rw [p5]; have := HI.out.2.2; simp; omega⟩
                obtain ⟨z1, z3, hr4⟩ := HA.out.cells SX.out.bel (Nat.le_refl _) htl EA.out
                rw [AI.out] at z1
                have y6 : w4.cell? ⟨rb, i, none⟩ = some (.string (sAt bodies i)) := Sep.str_at SX.out.up1 (by omega)
                have g6 : w4.frozen? ⟨rb, i, none⟩ = false := Sep.str_fz SX.out.up1 (by omega)
                have S7 : Hid (Sep w.heap.size w (w4.setCell ⟨rb, i, none⟩ (.string A.s)) [RowR 4 (.slice (some ⟨rt, 0, none⟩) 12 12) (there.map .bool), RowR 9 (.slice (some ⟨rb, 0, none⟩) 12 12) ((bodies.set i A.s).map .string), File f b d2]) := (Sep.str_set SX.out.up1 (by omega) lb).up1
                have S7d : Hid (Sep w.heap.size w (w4.setCell ⟨rb, i, none⟩ (.string A.s)).drew [RowR 4 (.slice (some ⟨rt, 0, none⟩) 12 12) (there.map .bool), RowR 9 (.slice (some ⟨rb, 0, none⟩) 12 12) ((bodies.set i A.s).map .string), File f b d2]) := S7.out.drew
                obtain ⟨k1, k3, hr5⟩ := HA.out.cells S7d.out.bel (Nat.le_refl _) htl EA.out
                rw [AI.out] at k1
                obtain ⟨y7, g7⟩ := Sep.bool_at S7d.out (i := i) (by omega)
                have S8 : Hid (Sep w.heap.size w ((w4.setCell ⟨rb, i, none⟩ (.string A.s)).drew.setCell ⟨rt, i, none⟩ (.bool true)) [RowR 4 (.slice (some ⟨rt, 0, none⟩) 12 12) ((there.set i true).map .bool), RowR 9 (.slice (some ⟨rb, 0, none⟩) 12 12) ((bodies.set i A.s).map .string), File f b d2]) := Sep.bool_set S7d.out (by omega) lt
                clear Dst p1 p2 p3 p4 p5 p6 HI hS hi
                go_wp2
                go_region_held3 (fun w' => w'.cell? ⟨r, o + t * 4 + 1, none⟩ = some (.int .i64 i) ∧ w'.cell? ⟨r, o + t * 4 + 3, none⟩ = some (.string A.s)) (first | assumption | exact ⟨z1, z3⟩ | exact ⟨k1, k3⟩) (fail)
                all_goals
                  clear z1 z3 y6 g6 S7 S7d SX hr4
                  generalize (w4.setCell ⟨rb, i, none⟩ (.string A.s)).drew = w6 at *
                  go_wp2
                  go_roundg (l.length - (t + 1))
                  case measure => omega
                  case rel => exact ⟨t + 1, d2, bodies.set i A.s, there.set i true, by go_num, by omega, Nat.le_refl _, I6, S8.out⟩
              · subst p2
                have hne : (er == 0) = false := beq_eq_false_iff_ne.2 p1
                have I6 : Hid (Up 12 d2 ∧ PagesL 1 d2 bodies there ∧ d2.pend.length ≤ t + 1) := ⟨HI.out.1, HI.out.2.1, by have := HI.out.2.2; omega⟩
                clear Dst p1 p3 HI
                go_wp2
                go_roundg (l.length - (t + 1))
                case measure => omega
                case rel => exact ⟨t + 1, d2, bodies, there, by go_num, by omega, Nat.le_refl _, I6, SX.out⟩
        · have htz : ¬ (t : Int) < (l.length : Int) := by omega
          have CS0 := sync_f S.out.up2 (by have := HI.out.2.2; omega)
          obtain ⟨q1, q2, q3, q4, q5⟩ := HI.out.1.sync S.out.up2.fok
          rw [q1] at CS0
          obtain ⟨lb, lt⟩ := HI.out.2.1.lens
          have I7 : Hid (Up 12 d.sync.2 ∧ PagesL 1 d.sync.2 bodies there ∧ d.sync.2.pend = []) := ⟨q2, HI.out.2.1.same (fun j _ _ => q3 j), q4⟩
          generalize d.sync.2 = d7 at CS0 I7
          have CS : Hid _ := CS0
          clear CS0 q1 q2 q3 q4 q5 HI S
          go_wp2_with fail
          refine Calls.mono CS.out ?_
          rintro e w7 ⟨rfl, s7⟩
          have S7 : Hid (Sep w.heap.size w w7 [RowR 4 (.slice (some ⟨rt, 0, none⟩) 12 12) (there.map .bool), RowR 9 (.slice (some ⟨rb, 0, none⟩) 12 12) (bodies.map .string), File f b d7]) := s7.dn2
          obtain ⟨sure7, e7⟩ : ∃ s, d7.sure = s := ⟨_, rfl⟩
          have K0 : Hid (Up 12 d7 ∧ d7.sure = sure7 ∧ d7.pend.length ≤ 0) := ⟨I7.out.1, e7, by rw [I7.out.2.2]; exact Nat.le_refl _⟩
          have E7 : Hid (d7.sure = sure7) := e7
          clear e7
          clear s7 CS
          go_wp2
          go_loopg [11] later.length (fun gk s11 wr => ∃ (t : Nat) (d : Dk), s11 = .int .i64 t ∧ t ≤ later.length ∧ later.length - t ≤ gk ∧ Hid (Up 12 d ∧ d.sure = sure7 ∧ d.pend.length ≤ t) ∧ Aside (Sep w.heap.size w wr [RowR 4 (.slice (some ⟨rt, 0, none⟩) 12 12) (there.map .bool), RowR 9 (.slice (some ⟨rb, 0, none⟩) 12 12) (bodies.map .string), File f b d]))
          case atStart => exact ⟨0, d7, rfl, Nat.zero_le _, Nat.le_refl _, K0, S7.out⟩
          case round =>
            clear S7 K0
            obtain ⟨t, d, rfl, ht, hgt, HI, S⟩ := hrel
            by_cases htl : t < later.length
            · have htz : (t : Int) < (later.length : Int) := by omega
              obtain ⟨r, o, rfl, hr, x0, x1, x2, x3, hsz, hi63⟩ := HA2.out.at S.out.bel (Nat.le_refl _) htl
              obtain ⟨A, hA⟩ : ∃ A, later.getD t a0 = A := ⟨_, rfl⟩
              rw [hA] at x0 x1 x2 x3 hsz hi63
              have EA : Hid (later.getD t a0 = A) := hA
              have SZ : Hid (A.s.size ≤ maxLen) := hsz
              unfold maxLen at hsz
              clear hA x0 x2 hi63
              by_cases hs3 : 300 < A.s.size
              · have hsz3 : (300 : Int) < (A.s.size : Int) := by omega
                go_wp2
                go_ret
                exact ⟨rfl, S.out.bel⟩
              · have hsz3 : ¬ (300 : Int) < (A.s.size : Int) := by omega
                have Dst : Hid _ := HI.out.1.wr A.i 2 A.s
                have CW0 : ∀ u, Sep w.heap.size w u [RowR 4 (.slice (some ⟨rt, 0, none⟩) 12 12) (there.map .bool), RowR 9 (.slice (some ⟨rb, 0, none⟩) 12 12) (bodies.map .string), File f b d] → Calls Tryd.prog 13 #[ptr f, .int .i64 A.i, .int .u8 2, .string A.s] u fun e w' => e = .returned (.int .i64 (d.wr A.i 2 A.s).1) ∧ Sep w.heap.size w w' [RowR 4 (.slice (some ⟨rt, 0, none⟩) 12 12) (there.map .bool), RowR 9 (.slice (some ⟨rb, 0, none⟩) 12 12) (bodies.map .string), File f b (d.wr A.i 2 A.s).2] := fun u hu => (write_f TS.out hu.up2 A.i 2 A.s SZ.out (by have := HI.out.2.2; omega)).mono fun _ _ h => ⟨h.1, h.2.dn2⟩
                generalize (d.wr A.i 2 A.s).1 = er at Dst CW0
                generalize (d.wr A.i 2 A.s).2 = d2 at Dst CW0
                have CWr : Hid _ := CW0
                have SD : Hid (Sep w.heap.size w wr.drew [RowR 4 (.slice (some ⟨rt, 0, none⟩) 12 12) (there.map .bool), RowR 9 (.slice (some ⟨rb, 0, none⟩) 12 12) (bodies.map .string), File f b d]) := S.out.drew
                have I6 : Hid (Up 12 d2 ∧ d2.sure = sure7 ∧ d2.pend.length ≤ t + 1) := by
                  have h1 := HI.out.2.2
                  rcases Dst.out with ⟨_, _, _, _, p4, p5, p6⟩ | ⟨_, p2, _⟩
                  · exact ⟨p4, p6.trans HI.out.2.1, by rw [p5]; simp; omega⟩
                  · rw [p2]; exact ⟨HI.out.1, HI.out.2.1, by omega⟩
                clear CW0 Dst HI
                go_wp2
                go_region_held3 (fun w' => w'.cell? ⟨r, o + t * 4 + 1, none⟩ = some (.int .i64 A.i) ∧ w'.cell? ⟨r, o + t * 4 + 3, none⟩ = some (.string A.s)) (first | assumption | exact ⟨x1, x3⟩) ((go_at_call 13; refine Calls.mono (CWr.out _ SD.out) ?_; rintro e w4 ⟨rfl, sx⟩; obtain ⟨z1, z3, hr4⟩ := HA2.out.cells sx.bel (Nat.le_refl _) htl EA.out; have hS := And.intro z1 z3; have SX : Hid (Sep w.heap.size w w4 [RowR 4 (.slice (some ⟨rt, 0, none⟩) 12 12) (there.map .bool), RowR 9 (.slice (some ⟨rb, 0, none⟩) 12 12) (bodies.map .string), File f b d2]) := sx; clear sx))
                all_goals
                  clear CWr S SD x1 x3 hr
                  go_wp2
                  go_roundg (later.length - (t + 1))
                  case measure => omega
                  case rel => exact ⟨t + 1, d2, by go_num, by omega, Nat.le_refl _, I6, SX.out⟩
            · have htz : ¬ (t : Int) < (later.length : Int) := by omega
              have CC0 := crash_f S.out.up2 (.slice none 0 0) [] ⟨none, 0, rfl, fun h => absurd rfl h⟩ 0 0 (by have := HI.out.2.2; omega) (by decide)
              have I8 : Hid (Up 12 (d.crash [] 0 0) ∧ PagesL 1 (d.crash [] 0 0) bodies there) := by
                refine ⟨HI.out.1.crash _ _ _, I7.out.2.1.same (fun j _ _ => ?_)⟩
                have e1 : (d.crash [] 0 0).sure = d7.sure := by
                  show crashTo d.pend [] 0 0 d.sure d.pend.length = _
                  rw [crashTo_none _ _ _ _ _ _ (fun _ _ => rfl)]
                  exact HI.out.2.1.trans E7.out.symm
                rw [(HI.out.1.crash [] 0 0).now_sure rfl, I7.out.1.now_sure I7.out.2.2, e1]
              generalize d.crash [] 0 0 = d8 at CC0 I8
              have CC : Hid _ := CC0
              clear CC0 HI I7 S
              go_wp2_with fail
              refine Calls.mono CC.out ?_
              rintro e w8 ⟨rfl, s8⟩
              have S8 : Hid (Sep w.heap.size w w8 [RowR 4 (.slice (some ⟨rt, 0, none⟩) 12 12) (there.map .bool), RowR 9 (.slice (some ⟨rb, 0, none⟩) 12 12) (bodies.map .string), File f b d8]) := s8.dn2
              clear s8 CC
              go_wp2
              go_loopg [12] 12 (fun gk s12 wr => ∃ (u : Nat) (d : Dk), s12 = .int .i64 u ∧ 2 ≤ u ∧ u ≤ 12 ∧ 12 - u ≤ gk ∧ Hid (Up 12 d ∧ PagesL 1 d bodies there) ∧ Aside (Sep w.heap.size w wr [RowR 4 (.slice (some ⟨rt, 0, none⟩) 12 12) (there.map .bool), RowR 9 (.slice (some ⟨rb, 0, none⟩) 12 12) (bodies.map .string), File f b d]))
              case atStart => exact ⟨2, d8, rfl, by omega, by omega, by omega, I8, S8.out⟩
              case round =>
                clear S8 I8
                obtain ⟨u, d, rfl, hu2, hu, hgu, HI, S⟩ := hrel
                by_cases hul : u < 12
                · have huz : (u : Int) < 12 := by omega
                  have CR0 := read_f TS.out S.out.up2 (u : Int) 1
                  obtain ⟨g1, g2, g3, g4, g5⟩ := HI.out.1.rd u 1 hu2 hul
                  have ge : openE 1 (opn u (d.now u).data.toList) = if bAt there u then (sAt bodies u, 0) else (ByteArray.empty, 3) := by
                    obtain ⟨kinds, h1, h2⟩ := HI.out.2
                    have := h1.open hu2 hul
                    rw [h2 u hul] at this
                    exact this
                  rw [g1, ge] at CR0
                  have HI2 : Hid (Up 12 (d.rd u 1).2 ∧ PagesL 1 (d.rd u 1).2 bodies there) := ⟨g2, HI.out.2.same (fun j _ _ => g3 j)⟩
                  generalize (d.rd u 1).2 = d2 at CR0 HI2
                  clear g1 g2 g3 g4 g5 ge
                  cases hbt : bAt there u with
                  | true =>
                    rw [hbt, if_pos rfl] at CR0
                    have CR : Hid (Calls Tryd.prog 11 #[ptr f, .int .i64 u, .int .u8 1] wr fun e w' => e = .returned (.tuple #[.string (sAt bodies u), .int .i64 0]) ∧ Sep w.heap.size w w' [File f b d2, RowR 4 (.slice (some ⟨rt, 0, none⟩) 12 12) (there.map .bool), RowR 9 (.slice (some ⟨rb, 0, none⟩) 12 12) (bodies.map .string)]) := CR0
                    clear CR0 S
                    go_wp2_with fail
                    refine Calls.mono CR.out ?_
                    rintro e w9 ⟨rfl, s9⟩
                    have S9 : Aside (Sep w.heap.size w w9 [RowR 4 (.slice (some ⟨rt, 0, none⟩) 12 12) (there.map .bool), RowR 9 (.slice (some ⟨rb, 0, none⟩) 12 12) (bodies.map .string), File f b d2]) := s9.dn2
                    obtain ⟨y5, _⟩ := Sep.bool_at S9.out (i := u) (by omega)
                    have y6 : w9.cell? ⟨rb, u, none⟩ = some (.string (sAt bodies u)) := Sep.str_at S9.out.up1 (by omega)
                    rw [hbt] at y5
                    generalize sAt bodies u = x at *
                    clear s9 CR hbt
                    go_wp2
                    go_roundg (12 - (u + 1))
                    case measure => omega
                    case rel => exact ⟨u + 1, d2, by go_num, by omega, by omega, Nat.le_refl _, HI2, S9⟩
                  | false =>
                    rw [hbt, if_neg (by decide)] at CR0
                    have CR : Hid (Calls Tryd.prog 11 #[ptr f, .int .i64 u, .int .u8 1] wr fun e w' => e = .returned (.tuple #[.string ByteArray.empty, .int .i64 3]) ∧ Sep w.heap.size w w' [File f b d2, RowR 4 (.slice (some ⟨rt, 0, none⟩) 12 12) (there.map .bool), RowR 9 (.slice (some ⟨rb, 0, none⟩) 12 12) (bodies.map .string)]) := CR0
                    clear CR0 S
                    go_wp2_with fail
                    refine Calls.mono CR.out ?_
                    rintro e w9 ⟨rfl, s9⟩
                    have S9 : Aside (Sep w.heap.size w w9 [RowR 4 (.slice (some ⟨rt, 0, none⟩) 12 12) (there.map .bool), RowR 9 (.slice (some ⟨rb, 0, none⟩) 12 12) (bodies.map .string), File f b d2]) := s9.dn2
                    obtain ⟨y5, _⟩ := Sep.bool_at S9.out (i := u) (by omega)
                    rw [hbt] at y5
                    clear s9 CR hbt
                    go_wp2
                    go_roundg (12 - (u + 1))
                    case measure => omega
                    case rel => exact ⟨u + 1, d2, by go_num, by omega, by omega, Nat.le_refl _, HI2, S9⟩
                · have huz : ¬ (u : Int) < 12 := by omega
                  go_wp2
                  go_ret
                  exact ⟨rfl, S.out.bel⟩

end Go.Proofs.YtkbakmgjplhjiaaDoor

/-
  The walk of the law DiskTwice.
-/
import Derived.Test.YtnmmikgmhoecpabUp2
namespace Go.Proofs.Ytnmmikgmhoecpab
open Go.RowKit
set_option linter.unusedVariables false

theorem row_four (w : World) : IntRow (w.alloc (.cells #[.int .i64 0, .int .i64 1, .int .i64 2, .int .i64 3] 3)) (.slice (some ⟨w.heap.size, 0, none⟩) 4 4) [0, 1, 2, 3] := by
  refine ⟨some ⟨w.heap.size, 0, none⟩, 4, rfl, fun _ => ⟨w.heap.size, 0, rfl, by simp, fun j hj => ?_⟩⟩
  match j, hj with
  | 0, _ => rw [World.cell?_alloc_at #[.int .i64 0, .int .i64 1, .int .i64 2, .int .i64 3] 3 _ _ rfl]; rfl
  | 1, _ => rw [World.cell?_alloc_at #[.int .i64 0, .int .i64 1, .int .i64 2, .int .i64 3] 3 _ _ rfl]; rfl
  | 2, _ => rw [World.cell?_alloc_at #[.int .i64 0, .int .i64 1, .int .i64 2, .int .i64 3] 3 _ _ rfl]; rfl
  | 3, _ => rw [World.cell?_alloc_at #[.int .i64 0, .int .i64 1, .int .i64 2, .int .i64 3] 3 _ _ rfl]; rfl
theorem crash_nil {d : Dk} (h : d.pend = []) (keep : List Int) (torn cut : Int) : (d.crash keep torn cut).sure = d.sure := by
  show crashTo d.pend keep torn cut d.sure d.pend.length = d.sure
  rw [h]; rfl

set_option maxHeartbeats 8000000 in
set_option maxRecDepth 100000 in
theorem twice_walk (v : Value) (l : List A1) (kv : Value) (keep : List Int) (torn cut : Int) (w : World) (h : ActRow w v l) (hkp : IntRow w kv keep) :
    Calls Try.prog 3 #[v, kv, .int .i64 torn, .int .i64 cut] w fun e w' => e = .returned (.bool true) ∧ Below w.heap.size w w' := by
  have CW : Hid _ := works_c w
  obtain ⟨ao, cap, rfl, hrow⟩ := h.row
  have HA : Hid (ActRow w (.slice ao l.length cap) l) := h
  obtain ⟨ak, ck, rfl, hrk⟩ := id hkp
  have HK : Hid (IntRow w (.slice ak keep.length ck) keep) := hkp
  clear h hkp hrow hrk
  cases hlt : lightB 8 l with
  | false =>
    have HLT : Hid (lightB 8 l = false) := hlt
    clear hlt
    go_enter Try.func3, Try.ntmps3
    go_wp2_with fail
    refine Calls.mono CW.out ?_
    rintro e w1 ⟨rfl, b1⟩
    have CL0 := light_c 8 _ l w1 (HA.out.below b1 (Nat.le_refl _))
    rw [HLT.out] at CL0
    have CL : Hid _ := CL0
    have S1 : Hid (Sep w.heap.size w w1 []) := Sep.nil b1.size b1
    clear b1 CW CL0
    go_wp2_with fail
    refine Calls.mono CL.out ?_
    rintro e w2 ⟨rfl, rfl⟩
    go_wp2
    go_ret
    exact ⟨rfl, S1.out.bel⟩
  | true =>
    have HLT : Hid (lightB 8 l = true) := hlt
    have hll : l.length ≤ 60 := by unfold lightB at hlt; simp at hlt; omega
    clear hlt
    by_cases hk60 : 60 < keep.length
    · have hkz : (60 : Int) < (keep.length : Int) := by omega
      go_enter Try.func3, Try.ntmps3
      go_wp2_with fail
      refine Calls.mono CW.out ?_
      rintro e w1 ⟨rfl, b1⟩
      have CL0 := light_c 8 _ l w1 (HA.out.below b1 (Nat.le_refl _))
      rw [HLT.out] at CL0
      have CL : Hid _ := CL0
      have S1 : Hid (Sep w.heap.size w w1 []) := Sep.nil b1.size b1
      clear b1 CW CL0
      go_wp2_with fail
      refine Calls.mono CL.out ?_
      rintro e w2 ⟨rfl, rfl⟩
      go_wp2
      go_ret
      exact ⟨rfl, S1.out.bel⟩
    · have hkz : ¬ (60 : Int) < (keep.length : Int) := by omega
      go_enter Try.func3, Try.ntmps3
      go_wp2_with fail
      refine Calls.mono CW.out ?_
      rintro e w1 ⟨rfl, b1⟩
      have CL0 := light_c 8 _ l w1 (HA.out.below b1 (Nat.le_refl _))
      rw [HLT.out] at CL0
      have CL : Hid _ := CL0
      have S1 : Hid (Sep w.heap.size w w1 []) := Sep.nil b1.size b1
      clear b1 CW CL0
      go_wp2_with fail
      refine Calls.mono CL.out ?_
      rintro e w2 ⟨rfl, rfl⟩
      have CN : Hid _ := new_s 8 S1.out
      go_wp2_with fail
      refine Calls.mono CN.out ?_
      rintro e w3 ⟨b, rfl, s3⟩
      have S3 : Hid (Sep w.heap.size w w3 [Disk b (Dk.new 8)]) := s3
      clear s3 CN CL S1
      go_wp2
      go_loopg [12] l.length (fun gk s14 wr => ∃ (t : Nat) (d : Dk), s14 = .int .i64 t ∧ t ≤ l.length ∧ l.length - t ≤ gk ∧ Hid (Up 8 d ∧ d.pend.length ≤ t) ∧ Aside (Sep w.heap.size w wr [Disk b d]))
      case atStart => exact ⟨0, _, rfl, Nat.zero_le _, Nat.le_refl _, ⟨Up.new 8 (by omega), Nat.le_refl _⟩, S3.out⟩
      case round =>
        obtain ⟨t, d, rfl, ht, hgt, HI, S⟩ := hrel
        by_cases htl : t < l.length
        · have htz : (t : Int) < (l.length : Int) := by omega
          obtain ⟨r, o, rfl, hr, x0, x1, x2, x3, x4, x5, _, hb, _⟩ := HA.out.at S.out.bel (Nat.le_refl _) htl
          obtain ⟨A, hA⟩ : ∃ A, l.getD t a0 = A := ⟨_, rfl⟩
          rw [hA] at x1 x2 hb
          clear hA x0 x3 x4 x5
          have Dst : Hid _ := HI.out.1.put A.i (pageS A.b)
          have CW0 := fun u (hu : Sep w.heap.size w u [Disk b d]) => write_s hu A.i (pageS A.b) (pageS_le _) (by have := HI.out.2; omega)
          generalize (d.put A.i (pageS A.b)).1 = er at Dst CW0
          generalize (d.put A.i (pageS A.b)).2 = d2 at Dst CW0
          have CWr : Hid _ := CW0
          have I6 : Hid (Up 8 d2 ∧ d2.pend.length ≤ t + 1) := by
            have := HI.out.2
            rcases Dst.out with ⟨_, _, _, _, p4, p5, _⟩ | ⟨_, p2, _⟩
            · exact ⟨p4, by rw [p5]; simp; omega⟩
            · rw [p2]; exact ⟨HI.out.1, by omega⟩
          clear CW0 Dst
          go_wp2
          go_region_law (first | (go_simp; refine Calls.mono (page_o A.b hb _) ?_; rintro e w4 ⟨rfl, lx⟩; have Sw4 : Hid (Sep w.heap.size w w4 [Disk b d]) := S.out.drew.below lx; have y1 : w4.cell? ⟨r, o + t * 6 + 1, none⟩ = some (.int .i64 A.i) := (World.cell?_of_block (a := ⟨r, o + t * 6 + 1, none⟩) (lx.block r hr)).trans x1; clear lx; dsimp only) | (go_simp; refine Calls.mono (CWr.out _ (Hid.out (by assumption))) ?_; rintro e w5 ⟨rfl, sx⟩; have Sw5 : Hid (Sep w.heap.size w w5 [Disk b d2]) := sx; clear sx; dsimp only))
          all_goals
            clear CWr
            go_wp2
            go_roundg (l.length - (t + 1))
            case measure => omega
            case rel => exact ⟨t + 1, d2, by go_num, by omega, Nat.le_refl _, I6, Sw5.out⟩
        · have htz : ¬ (t : Int) < (l.length : Int) := by omega
          have CC0 := crash_s S.out _ _ (HK.out.below S.out.bel (Nat.le_refl _)) torn cut (by have := HI.out.2; omega) (by omega)
          have U3 : Hid (Up 8 (d.crash keep torn cut) ∧ (d.crash keep torn cut).pend = []) := ⟨HI.out.1.crash _ _ _, rfl⟩
          generalize d.crash keep torn cut = d3 at CC0 U3
          have CC : Hid _ := CC0
          clear CC0 HI
          go_wp2_with fail
          refine Calls.mono CC.out ?_
          rintro e w9 ⟨rfl, s9⟩
          have S8 : Hid (Sep w.heap.size w w9 [RowR 9 (.slice none 0 0) [], Disk b d3]) := s9.addNil _
          clear CC S s9
          go_wp2
          go_loopg [13, 14] 8 (fun gk s6 s7 wr => ∃ (t : Nat) (a6 : Option Addr) (n6 c6 : Nat) (was : List ByteArray), s6 = .slice a6 n6 c6 ∧ s7 = .int .i64 t ∧ t ≤ 8 ∧ 8 - t ≤ gk ∧ Hid (was.length = t ∧ ∀ j, j < t → sAt d3.sure j = sAt was j) ∧ Aside (Sep w.heap.size w wr [RowR 9 (.slice a6 n6 c6) (was.map .string), Disk b d3]))
          case atStart => exact ⟨0, none, 0, 0, [], rfl, rfl, by omega, by omega, ⟨rfl, fun j hj => absurd hj (by omega)⟩, S8.out⟩
          case round =>
            clear S8
            obtain ⟨t, a6, n6, c6, was, rfl, rfl, ht, hgt, HI, S⟩ := hrel
            by_cases htl : t < 8
            · have htz : (t : Int) < 8 := by omega
              have CU0 := sure_s S.out.up1 (t : Int)
              rw [U3.out.1.sureAt htl] at CU0
              have HI2 : Hid _ := was_snoc HI.out.1 HI.out.2
              have hwl : was.length = t := HI.out.1
              generalize hx : sAt d3.sure t = x at CU0 HI2
              have CU : Hid _ := CU0
              clear CU0 hx
              go_wp2_with fail
              refine Calls.mono CU.out ?_
              rintro e w4 ⟨rfl, rfl⟩
              clear CU
              go_wp2_with (at_builtin; refine app_str rfl _ _ rfl _ _ rfl (S.out.alloc _) wr.heap.size 1 x rfl (by simp) (by simp; omega) ?_)
              intro a7 n7 c7 w5 s5
              have S5 : Hid (Sep w.heap.size w w5 [RowR 9 (.slice a7 n7 c7) ((was ++ [x]).map .string), Disk b d3]) := by show Sep _ _ _ _; rw [List.map_append]; exact s5
              clear s5 S
              go_wp2
              go_roundg (8 - (t + 1))
              case measure => omega
              case rel => exact ⟨t + 1, a7, n7, c7, was ++ [x], rfl, by go_num, by omega, Nat.le_refl _, HI2, S5.out⟩
            · have htz : ¬ (t : Int) < 8 := by omega
              obtain rfl : t = 8 := by omega
              have hw8 : was.length = 8 := HI.out.1
              obtain ⟨r6, c7, e6, _, _, _, _⟩ := S.out.cell (j := 0) (by simp [hw8])
              rw [show (was.map Value.string).length = 8 by simp [hw8]] at e6
              cases e6
              have SA : Hid (Sep w.heap.size w (wr.alloc (.cells #[.int .i64 0, .int .i64 1, .int .i64 2, .int .i64 3] 3)) [Disk b d3, RowR 9 (.slice (some ⟨r6, 0, none⟩) 8 c6) (was.map .string)]) := S.out.up1.alloc _
              have CC0 := crash_s SA.out _ _ (row_four wr) 0 7 (by rw [U3.out.2]; simp) (by simp)
              have U5 : Hid (Up 8 (d3.crash [0, 1, 2, 3] 0 7) ∧ (d3.crash [0, 1, 2, 3] 0 7).pend = [] ∧ ∀ j, j < 8 → sAt (d3.crash [0, 1, 2, 3] 0 7).sure j = sAt was j) := ⟨U3.out.1.crash _ _ _, rfl, fun j hj => by rw [crash_nil U3.out.2]; exact HI.out.2 j hj⟩
              generalize d3.crash [0, 1, 2, 3] 0 7 = d5 at CC0 U5
              have CC : Hid _ := CC0
              clear CC0 HI U3 S SA
              go_wp2_with fail
              refine Calls.mono CC.out ?_
              rintro e w9 ⟨rfl, s9⟩
              have S9 : Hid (Sep w.heap.size w w9 [RowR 9 (.slice (some ⟨r6, 0, none⟩) 8 c6) (was.map .string), Disk b d5]) := s9.up1
              clear s9 CC
              go_wp2
              go_loopg [15] 8 (fun gk s22 wr => ∃ (u : Nat) (d : Dk), s22 = .int .i64 u ∧ u ≤ 8 ∧ 8 - u ≤ gk ∧ Hid (Up 8 d ∧ d.pend = [] ∧ ∀ j, j < 8 → sAt d.sure j = sAt was j) ∧ Aside (Sep w.heap.size w wr [RowR 9 (.slice (some ⟨r6, 0, none⟩) 8 c6) (was.map .string), Disk b d]))
              case atStart => exact ⟨0, d5, rfl, by omega, by omega, U5, S9.out⟩
              case round =>
                clear S9 U5
                obtain ⟨u, d, rfl, hu, hgu, HI, S⟩ := hrel
                by_cases hul : u < 8
                · have huz : (u : Int) < 8 := by omega
                  have CR0 := read_s S.out.up1 (u : Int)
                  obtain ⟨g1, g2, g3, g4, g5⟩ := HI.out.1.get u hul
                  rw [g1, HI.out.1.now_sure HI.out.2.1, HI.out.2.2 u hul] at CR0
                  have HI2 : Hid (Up 8 (d.get u).2 ∧ (d.get u).2.pend = [] ∧ ∀ j, j < 8 → sAt (d.get u).2.sure j = sAt was j) := ⟨g2, g4.trans HI.out.2.1, by rw [g5]; exact HI.out.2.2⟩
                  have ES : Hid ((d.get u).2.sureAt u = sAt was u) := by show _ = _; rw [g2.sureAt hul, g5, HI.out.2.2 u hul]
                  generalize (d.get u).2 = d2 at CR0 HI2 ES
                  have CR : Hid _ := CR0
                  clear CR0 g1 g2 g3 g4 g5
                  go_wp2_with fail
                  refine Calls.mono CR.out ?_
                  rintro e w4 ⟨rfl, s4⟩
                  have S4 : Aside (Sep w.heap.size w w4 [RowR 9 (.slice (some ⟨r6, 0, none⟩) 8 c6) (was.map .string), Disk b d2]) := s4.up1
                  have CU0 := fun n => sure_s (s4.drewN n) (u : Int)
                  rw [ES.out] at CU0
                  have CU : Hid _ := CU0
                  have y6 : w4.cell? ⟨r6, u, none⟩ = some (.string (sAt was u)) := Sep.str_at S4.out (by omega)
                  generalize sAt was u = x at y6 CU
                  clear s4 CR CU0
                  go_wp2
                  go_quiet (first | (go_at_call 10; exact Calls.quiet_of_same ((CU.out _).mono fun _ _ h => ⟨h.1, h.2.symm⟩)))
                  clear CU
                  go_wp2
                  go_roundg (8 - (u + 1))
                  case measure => omega
                  case rel => exact ⟨u + 1, d2, by go_num, by omega, Nat.le_refl _, HI2, S4.out.drewN _⟩
                · have huz : ¬ (u : Int) < 8 := by omega
                  have CP0 := pending_s S.out.up1
                  rw [HI.out.2.1] at CP0
                  have CP : Hid _ := CP0
                  have CD0 := down_s S.out.up1
                  rw [HI.out.1.dn] at CD0
                  have CD : Hid _ := CD0
                  clear CP0 CD0
                  go_wp2_with fail
                  refine Calls.mono CP.out ?_
                  rintro e w5 ⟨rfl, rfl⟩
                  go_wp2_with fail
                  refine Calls.mono CD.out ?_
                  rintro e w5 ⟨rfl, rfl⟩
                  go_wp2
                  go_ret
                  exact ⟨rfl, S.out.bel⟩

end Go.Proofs.Ytnmmikgmhoecpab

/-
  The walk of the law DiskKeeps.
-/
import Derived.Test.YtnmmikgmhoecpaaUp2
namespace Go.Proofs.Ytnmmikgmhoecpaa
open Go.RowKit
set_option linter.unusedVariables false

/-- The rows of truth values. -/
theorem make_eight (w : World) : (Instr.makeSlice 46 (.int .i64 8) (.int .i64 8)).run Try.prog w = .ok (.slice (some ⟨w.heap.size, 0, none⟩) 8 8) (w.alloc (.cells ((List.replicate 8 false).map Value.bool).toArray 4)) := by
  have h := make_bools w [] 8 (by omega)
  have e : keptTo [] 8 0 = (List.replicate 8 false).map Value.bool := by rfl
  rw [e] at h
  exact h
theorem Sep.addEight {B : Nat} {w0 w : World} {l : List Res} (h : Sep B w0 w l) : Sep B w0 (w.alloc (.cells ((List.replicate 8 false).map Value.bool).toArray 4)) (RowR 4 (.slice (some ⟨w.heap.size, 0, none⟩) 8 8) ((List.replicate 8 false).map Value.bool) :: l) :=
  h.add ((Below.refl _ _).alloc (Nat.le_refl _) _) (good_row _ _ _) (X := fun k => k = w.heap.size) ⟨World.ownsRow_lit w _ 8 (Nat.zero_le _) (by unfold maxLen; omega) (by simp), fun k => by simp [Value.ownBlock, eq_comm]⟩ (fun k hk => Nat.le_of_eq hk.symm)
def bAt (l : List Bool) (i : Nat) : Bool := l.getD i false
theorem Sep.bool_at {B : Nat} {w0 w : World} {r c : Nat} {l : List Res} {tl : List Bool} {n i : Nat} (h : Sep B w0 w (RowR 4 (.slice (some ⟨r, 0, none⟩) n c) (tl.map .bool) :: l)) (hi : i < tl.length) : w.cell? ⟨r, i, none⟩ = some (.bool (bAt tl i)) ∧ w.frozen? ⟨r, i, none⟩ = false := by
  obtain ⟨r', c', e, _, _, hc, hf⟩ := h.cell (j := i) (by simpa using hi)
  cases e
  rw [hc]
  exact ⟨by simp [bAt, List.getD_eq_getElem?_getD, hi], hf⟩
theorem Sep.bool_set {B : Nat} {w0 w : World} {r c : Nat} {l : List Res} {tl : List Bool} {n i : Nat} {s : Bool} (h : Sep B w0 w (RowR 4 (.slice (some ⟨r, 0, none⟩) n c) (tl.map .bool) :: l)) (hi : i < tl.length) (hn : tl.length = n) : Sep B w0 (w.setCell ⟨r, i, none⟩ (.bool s)) (RowR 4 (.slice (some ⟨r, 0, none⟩) n c) ((tl.set i s).map .bool) :: l) := by
  subst hn
  have e : tl.length = (tl.map Value.bool).length := by simp
  rw [e] at h ⊢
  rw [List.map_set]
  exact h.store i (by simpa using hi) _
theorem bAt_set (tl : List Bool) {i j : Nat} (hi : i < tl.length) : bAt (tl.set i true) j = if i = j then true else bAt tl j := by
  unfold bAt
  rw [List.getD_eq_getElem?_getD, List.getElem?_set]
  by_cases h : i = j
  · subst h; simp [hi]
  · simp [h, List.getD_eq_getElem?_getD]

/-- What has been written since is told. -/
structure KInv (sure : List ByteArray) (t : Nat) (tl : List Bool) (d : Dk) : Prop where
  up : Up 8 d
  su : d.sure = sure
  pl : d.pend.length ≤ t
  tl8 : tl.length = 8
  tch : ∀ p ∈ d.pend, bAt tl p.1 = true
set_option maxHeartbeats 8000000 in
set_option maxRecDepth 100000 in
theorem keeps_walk (v : Value) (l : List A1) (kv : Value) (keep : List Int) (torn cut : Int) (lv : Value) (later : List Int) (w : World) (h : ActRow w v l) (hkp : IntRow w kv keep) (hlt : IntRow w lv later) :
    Calls Try.prog 4 #[v, kv, .int .i64 torn, .int .i64 cut, lv] w fun e w' => e = .returned (.bool true) ∧ Below w.heap.size w w' := by
  have CW : Hid _ := works_c w
  obtain ⟨ao, cap, rfl, hrow⟩ := h.row
  have HA : Hid (ActRow w (.slice ao l.length cap) l) := h
  obtain ⟨ak, ck, rfl, hrk⟩ := id hkp
  have HK : Hid (IntRow w (.slice ak keep.length ck) keep) := hkp
  obtain ⟨al, cl, rfl, hrl⟩ := id hlt
  have HLR : Hid (IntRow w (.slice al later.length cl) later) := hlt
  clear h hkp hlt hrow hrk hrl
  cases hlt : lightB 8 l with
  | false =>
    have HLT : Hid (lightB 8 l = false) := hlt
    clear hlt
    go_enter Try.func4, Try.ntmps4
    go_wp2_with fail
    refine Calls.mono CW.out ?_
    rintro e w1 ⟨rfl, b1⟩
    have CL0 := light_c 8 _ l w1 (HA.out.below b1 (Nat.le_refl _))
    rw [HLT.out] at CL0
    have CL : Hid _ := CL0
    have S1 : Hid (Sep w.heap.size w w1 []) := Sep.nil b1.size b1
    clear b1 CW CL0
    go_wp2_with fail
    refine Calls.mono CL.out ?_
    rintro e w2 ⟨rfl, rfl⟩
    go_wp2
    go_ret
    exact ⟨rfl, S1.out.bel⟩
  | true =>
    have HLT : Hid (lightB 8 l = true) := hlt
    have hll : l.length ≤ 60 := by unfold lightB at hlt; simp at hlt; omega
    clear hlt
    by_cases hk60 : 60 < keep.length
    · have hkz : (60 : Int) < (keep.length : Int) := by omega
      go_enter Try.func4, Try.ntmps4
      go_wp2_with fail
      refine Calls.mono CW.out ?_
      rintro e w1 ⟨rfl, b1⟩
      have CL0 := light_c 8 _ l w1 (HA.out.below b1 (Nat.le_refl _))
      rw [HLT.out] at CL0
      have CL : Hid _ := CL0
      have S1 : Hid (Sep w.heap.size w w1 []) := Sep.nil b1.size b1
      clear b1 CW CL0
      go_wp2_with fail
      refine Calls.mono CL.out ?_
      rintro e w2 ⟨rfl, rfl⟩
      go_wp2
      go_ret
      exact ⟨rfl, S1.out.bel⟩
    · have hkz : ¬ (60 : Int) < (keep.length : Int) := by omega
      by_cases hl60 : 60 < later.length
      · have hlz : (60 : Int) < (later.length : Int) := by omega
        go_enter Try.func4, Try.ntmps4
        go_wp2_with fail
        refine Calls.mono CW.out ?_
        rintro e w1 ⟨rfl, b1⟩
        have CL0 := light_c 8 _ l w1 (HA.out.below b1 (Nat.le_refl _))
        rw [HLT.out] at CL0
        have CL : Hid _ := CL0
        have S1 : Hid (Sep w.heap.size w w1 []) := Sep.nil b1.size b1
        clear b1 CW CL0
        go_wp2_with fail
        refine Calls.mono CL.out ?_
        rintro e w2 ⟨rfl, rfl⟩
        go_wp2
        go_ret
        exact ⟨rfl, S1.out.bel⟩
      · have hlz : ¬ (60 : Int) < (later.length : Int) := by omega
        go_enter Try.func4, Try.ntmps4
        go_wp2_with fail
        refine Calls.mono CW.out ?_
        rintro e w1 ⟨rfl, b1⟩
        have CL0 := light_c 8 _ l w1 (HA.out.below b1 (Nat.le_refl _))
        rw [HLT.out] at CL0
        have CL : Hid _ := CL0
        have S1 : Hid (Sep w.heap.size w w1 []) := Sep.nil b1.size b1
        clear b1 CW CL0
        go_wp2_with fail
        refine Calls.mono CL.out ?_
        rintro e w2 ⟨rfl, rfl⟩
        have CN : Hid _ := new_s 8 S1.out
        go_wp2_with fail
        refine Calls.mono CN.out ?_
        rintro e w3 ⟨b, rfl, s3⟩
        have S3 : Hid (Sep w.heap.size w w3 [Disk b (Dk.new 8)]) := s3
        clear s3 CN CL S1
        go_wp2
        go_loopg [14] l.length (fun gk s14 wr => ∃ (t : Nat) (d : Dk), s14 = .int .i64 t ∧ t ≤ l.length ∧ l.length - t ≤ gk ∧ Hid (Up 8 d ∧ d.pend.length ≤ t) ∧ Aside (Sep w.heap.size w wr [Disk b d]))
        case atStart => exact ⟨0, _, rfl, Nat.zero_le _, Nat.le_refl _, ⟨Up.new 8 (by omega), Nat.le_refl _⟩, S3.out⟩
        case round =>
          obtain ⟨t, d, rfl, ht, hgt, HI, S⟩ := hrel
          by_cases htl : t < l.length
          · have htz : (t : Int) < (l.length : Int) := by omega
            obtain ⟨r, o, rfl, hr, x0, x1, x2, x3, x4, x5, _, hb, _⟩ := HA.out.at S.out.bel (Nat.le_refl _) htl
            obtain ⟨A, hA⟩ : ∃ A, l.getD t a0 = A := ⟨_, rfl⟩
            rw [hA] at x1 x2 hb
            clear hA x0 x3 x4 x5
            have Dst : Hid _ := HI.out.1.put A.i (pageS A.b)
            have CW0 := fun u (hu : Sep w.heap.size w u [Disk b d]) => write_s hu A.i (pageS A.b) (pageS_le _) (by have := HI.out.2; omega)
            generalize (d.put A.i (pageS A.b)).1 = er at Dst CW0
            generalize (d.put A.i (pageS A.b)).2 = d2 at Dst CW0
            have CWr : Hid _ := CW0
            have I6 : Hid (Up 8 d2 ∧ d2.pend.length ≤ t + 1) := by
              have := HI.out.2
              rcases Dst.out with ⟨_, _, _, _, p4, p5, _⟩ | ⟨_, p2, _⟩
              · exact ⟨p4, by rw [p5]; simp; omega⟩
              · rw [p2]; exact ⟨HI.out.1, by omega⟩
            clear CW0 Dst
            go_wp2
            go_region_law (first | (go_simp; refine Calls.mono (page_o A.b hb _) ?_; rintro e w4 ⟨rfl, lx⟩; have Sw4 : Hid (Sep w.heap.size w w4 [Disk b d]) := S.out.drew.below lx; have y1 : w4.cell? ⟨r, o + t * 6 + 1, none⟩ = some (.int .i64 A.i) := (World.cell?_of_block (a := ⟨r, o + t * 6 + 1, none⟩) (lx.block r hr)).trans x1; clear lx; dsimp only) | (go_simp; refine Calls.mono (CWr.out _ (Hid.out (by assumption))) ?_; rintro e w5 ⟨rfl, sx⟩; have Sw5 : Hid (Sep w.heap.size w w5 [Disk b d2]) := sx; clear sx; dsimp only))
            all_goals
              clear CWr
              go_wp2
              go_roundg (l.length - (t + 1))
              case measure => omega
              case rel => exact ⟨t + 1, d2, by go_num, by omega, Nat.le_refl _, I6, Sw5.out⟩
          · have htz : ¬ (t : Int) < (l.length : Int) := by omega
            have CS0 := sync_s S.out (by have := HI.out.2; omega)
            obtain ⟨q1, q2, q3, q4, q5⟩ := HI.out.1.sync S.out.ok
            rw [q1] at CS0
            have I7 : Hid (Up 8 d.sync.2 ∧ d.sync.2.pend = []) := ⟨q2, q4⟩
            generalize d.sync.2 = d7 at CS0 I7
            have CS : Hid _ := CS0
            clear CS0 q1 q2 q3 q4 q5 HI
            go_wp2_with fail
            refine Calls.mono CS.out ?_
            rintro e w7 ⟨rfl, s7⟩
            have S7 : Hid (Sep w.heap.size w w7 [Disk b d7]) := s7
            have CP0 := pending_s s7
            rw [I7.out.2] at CP0
            have CP : Hid _ := CP0
            clear s7 CS CP0
            go_wp2_with fail
            refine Calls.mono CP.out ?_
            rintro e w8 ⟨rfl, rfl⟩
            have S8 : Hid (Sep w.heap.size w w7 [RowR 9 (.slice none 0 0) [], Disk b d7]) := S7.out.addNil _
            clear CP S
            go_wp2
            go_loopg [15, 16] 8 (fun gk s6 s7 wr => ∃ (t : Nat) (d : Dk) (a6 : Option Addr) (n6 c6 : Nat) (was : List ByteArray), s6 = .slice a6 n6 c6 ∧ s7 = .int .i64 t ∧ t ≤ 8 ∧ 8 - t ≤ gk ∧ Hid (Up 8 d ∧ d.pend = [] ∧ was.length = t ∧ ∀ j, j < t → sAt d.sure j = sAt was j) ∧ Aside (Sep w.heap.size w wr [RowR 9 (.slice a6 n6 c6) (was.map .string), Disk b d]))
            case atStart => exact ⟨0, d7, none, 0, 0, [], rfl, rfl, by omega, by omega, ⟨I7.out.1, I7.out.2, rfl, fun j hj => absurd hj (by omega)⟩, S8.out⟩
            case round =>
              obtain ⟨t, d, a6, n6, c6, was, rfl, rfl, ht, hgt, HI, S⟩ := hrel
              by_cases htl : t < 8
              · have htz : (t : Int) < 8 := by omega
                have CR0 := read_s S.out.up1 (t : Int)
                obtain ⟨g1, g2, g3, g4, g5⟩ := HI.out.1.get t htl
                rw [g1, HI.out.1.now_sure HI.out.2.1] at CR0
                have HI2 : Hid (Up 8 (d.get t).2 ∧ (d.get t).2.pend = [] ∧ (was ++ [sAt d.sure t]).length = t + 1 ∧ ∀ j, j < t + 1 → sAt (d.get t).2.sure j = sAt (was ++ [sAt d.sure t]) j) := by
                  obtain ⟨i1, i2, i3, i4⟩ := HI.out
                  refine ⟨g2, g4.trans i2, by simp [i3], fun j hj => ?_⟩
                  rw [g5]
                  rcases Nat.lt_or_eq_of_le (Nat.le_of_lt_succ hj) with hj2 | hj2
                  · rw [i4 j hj2]; unfold sAt
                    rw [List.getD_eq_getElem?_getD, List.getD_eq_getElem?_getD, List.getElem?_append_left (by omega)]
                  · subst hj2; subst i3; simp [sAt, List.getD_eq_getElem?_getD]
                have ES : Hid ((d.get t).2.sureAt t = sAt d.sure t) := by show _ = _; rw [g2.sureAt htl, g5]
                have hwl : was.length = t := HI.out.2.2.1
                generalize (d.get t).2 = d2 at CR0 HI2 ES
                generalize sAt d.sure t = x at CR0 HI2 ES
                have CR : Hid _ := CR0
                clear CR0 g1 g2 g3 g4 g5
                go_wp2_with fail
                refine Calls.mono CR.out ?_
                rintro e w4 ⟨rfl, s4⟩
                have S4 : Hid (Sep w.heap.size w w4 [RowR 9 (.slice a6 n6 c6) (was.map .string), Disk b d2]) := s4.up1
                have CU0 := sure_s s4 (t : Int)
                rw [ES.out] at CU0
                have CU : Hid _ := CU0
                clear s4 CR CU0
                go_wp2_with fail
                refine Calls.mono CU.out ?_
                rintro e w5 ⟨rfl, rfl⟩
                clear CU
                go_wp2_with (at_builtin; refine app_str rfl _ _ rfl _ _ rfl (S4.out.alloc _) w4.heap.size 1 x rfl (by simp) (by simp; omega) ?_)
                intro a7 n7 c7 w5 s5
                have S5 : Hid (Sep w.heap.size w w5 [RowR 9 (.slice a7 n7 c7) ((was ++ [x]).map .string), Disk b d2]) := by show Sep _ _ _ _; rw [List.map_append]; exact s5
                clear s5 S4
                go_wp2
                go_roundg (8 - (t + 1))
                case measure => omega
                case rel => exact ⟨t + 1, d2, a7, n7, c7, was ++ [x], rfl, by go_num, by omega, Nat.le_refl _, HI2, S5.out⟩
              · have htz : ¬ (t : Int) < 8 := by omega
                obtain rfl : t = 8 := by omega
                obtain ⟨sure0, hs0⟩ : ∃ s, s = d.sure := ⟨_, rfl⟩
                have W0 : Hid (was.length = 8 ∧ ∀ j, j < 8 → sAt sure0 j = sAt was j) := ⟨HI.out.2.2.1, by rw [hs0]; exact HI.out.2.2.2⟩
                have K0 : Hid (KInv sure0 0 (List.replicate 8 false) d) := ⟨HI.out.1, hs0.symm, by rw [HI.out.2.1]; exact Nat.le_refl _, rfl, by rw [HI.out.2.1]; exact fun p hp => by cases hp⟩
                have hmk := make_eight wr
                have SM : Hid (Sep w.heap.size w (wr.alloc (.cells ((List.replicate 8 false).map Value.bool).toArray 4)) [RowR 4 (.slice (some ⟨wr.heap.size, 0, none⟩) 8 8) ((List.replicate 8 false).map Value.bool), RowR 9 (.slice a6 n6 c6) (was.map .string), Disk b d]) := S.out.addEight
                obtain ⟨wm, em⟩ : ∃ wm, wm = wr.alloc (.cells ((List.replicate 8 false).map Value.bool).toArray 4) := ⟨_, rfl⟩
                rw [← em] at hmk SM
                obtain ⟨rt, ert⟩ : ∃ rt, rt = wr.heap.size := ⟨_, rfl⟩
                rw [← ert] at hmk SM
                clear em ert hs0 HI S
                go_wp2
                go_loopg [20] later.length (fun gk s20 wr => ∃ (t : Nat) (d : Dk) (tl : List Bool), s20 = .int .i64 t ∧ t ≤ later.length ∧ later.length - t ≤ gk ∧ Hid (KInv sure0 t tl d) ∧ Aside (Sep w.heap.size w wr [RowR 4 (.slice (some ⟨rt, 0, none⟩) 8 8) (tl.map .bool), RowR 9 (.slice a6 n6 c6) (was.map .string), Disk b d]))
                case atStart => exact ⟨0, d, List.replicate 8 false, rfl, Nat.zero_le _, Nat.le_refl _, K0, SM.out⟩
                case round =>
                  clear SM K0 hmk
                  obtain ⟨t, d, tl, rfl, ht, hgt, HI, S⟩ := hrel
                  by_cases htl : t < later.length
                  · have htz : (t : Int) < (later.length : Int) := by omega
                    obtain ⟨r, o, rfl, hr, x1⟩ := HLR.out.cells S.out.bel (Nat.le_refl _) htl
                    obtain ⟨q, hq⟩ : ∃ q, later.getD t 0 = q := ⟨_, rfl⟩
                    have EQ : Hid (later.getD t 0 = q) := hq
                    rw [hq] at x1
                    clear hq
                    have Dst : Hid _ := HI.out.up.put q (pageS 7)
                    have CW0 := fun u (hu : Sep w.heap.size w u [RowR 4 (.slice (some ⟨rt, 0, none⟩) 8 8) (tl.map .bool), RowR 9 (.slice a6 n6 c6) (was.map .string), Disk b d]) => write_s hu.up2 q (pageS 7) (pageS_le _) (by have := HI.out.pl; omega)
                    generalize (d.put q (pageS 7)).1 = er at Dst CW0
                    generalize (d.put q (pageS 7)).2 = d2 at Dst CW0
                    have CWr : Hid _ := CW0
                    clear CW0
                    go_wp2
                    go_region_law (first | (go_simp; refine Calls.mono (page_o 7 (by decide) _) ?_; rintro e w4 ⟨rfl, lx⟩; have Sw4 : Hid (Sep w.heap.size w w4 [RowR 4 (.slice (some ⟨rt, 0, none⟩) 8 8) (tl.map .bool), RowR 9 (.slice a6 n6 c6) (was.map .string), Disk b d]) := S.out.drew.below lx; have y1 : w4.cell? ⟨r, o + t, none⟩ = some (.int .i64 q) := (World.cell?_of_block (a := ⟨r, o + t, none⟩) (lx.block r hr)).trans x1; clear lx; dsimp only) | (go_simp; refine Calls.mono (CWr.out _ (Hid.out (by assumption))) ?_; rintro e w5 ⟨rfl, sx⟩; have Sw5 : Hid (Sep w.heap.size w w5 [RowR 4 (.slice (some ⟨rt, 0, none⟩) 8 8) (tl.map .bool), RowR 9 (.slice a6 n6 c6) (was.map .string), Disk b d2]) := sx.dn2; clear sx; dsimp only))
                    all_goals
                      have z1 := HLR.out.cells2 Sw5.out.bel (Nat.le_refl _) htl
                      rw [EQ.out] at z1
                      clear CWr S x1 hr
                      rcases Dst.out with ⟨rfl, p1, p2, p3, p4, p5, p6, _, _⟩ | ⟨p1, p2, _⟩
                      · obtain ⟨i, rfl⟩ : ∃ i : Nat, q = i := ⟨q.toNat, by omega⟩
                        have hi8 : i < 8 := by omega
                        have hiz : (i : Int) < 8 := by omega
                        have hi0 : (0 : Int) ≤ (i : Int) := by omega
                        have ht8 : tl.length = 8 := HI.out.tl8
                        have I6 : Hid (KInv sure0 (t + 1) (tl.set i true) d2) := by
                          refine ⟨p4, p6.trans HI.out.su, by rw [p5]; have := HI.out.pl; simp; omega, by rw [List.length_set]; exact ht8, fun p hp => ?_⟩
                          rw [bAt_set _ (by omega)]
                          rw [p5] at hp
                          rcases List.mem_append.1 hp with h1 | h1
                          · split
                            · rfl
                            · exact HI.out.tch p h1
                          · simp only [List.mem_singleton] at h1
                            subst h1
                            rw [if_pos (by simp)]
                        obtain ⟨y6, g6⟩ := Sep.bool_at Sw5.out (i := i) (by omega)
                        have S8 : Hid (Sep w.heap.size w (w5.setCell ⟨rt, i, none⟩ (.bool true)) [RowR 4 (.slice (some ⟨rt, 0, none⟩) 8 8) ((tl.set i true).map .bool), RowR 9 (.slice a6 n6 c6) (was.map .string), Disk b d2]) := Sep.bool_set Sw5.out (by omega) ht8
                        clear Dst p1 p2 p3 p4 p5 p6 HI
                        go_wp2
                        go_roundg (later.length - (t + 1))
                        case measure => omega
                        case rel => exact ⟨t + 1, d2, tl.set i true, by go_num, by omega, Nat.le_refl _, I6, S8.out⟩
                      · subst p2
                        have hne : (er == 0) = false := beq_eq_false_iff_ne.2 p1
                        have I6 : Hid (KInv sure0 (t + 1) tl d2) := ⟨HI.out.up, HI.out.su, by have := HI.out.pl; omega, HI.out.tl8, HI.out.tch⟩
                        clear Dst p1 HI
                        go_wp2
                        go_roundg (later.length - (t + 1))
                        case measure => omega
                        case rel => exact ⟨t + 1, d2, tl, by go_num, by omega, Nat.le_refl _, I6, Sw5.out⟩
                  · have htz : ¬ (t : Int) < (later.length : Int) := by omega
                    have ht8 : tl.length = 8 := HI.out.tl8
                    have CC0 := crash_s S.out.up2 _ _ (HK.out.below S.out.bel (Nat.le_refl _)) torn cut (by have := HI.out.pl; omega) (by omega)
                    have Z0 : Hid (∀ j, j < 8 → bAt tl j = false → sAt (d.crash keep torn cut).sure j = sAt was j) := fun j hj hb => by
                      rw [← W0.out.2 j hj, ← HI.out.su]
                      refine crashTo_other d.pend keep torn cut d.sure j d.pend.length (fun k hk e => ?_)
                      have hm : wAt d.pend k ∈ d.pend := by unfold wAt; rw [List.getD_eq_getElem?_getD, List.getElem?_eq_getElem hk]; exact List.getElem_mem hk
                      have := HI.out.tch _ hm
                      rw [e, hb] at this
                      cases this
                    have U3 : Hid (Up 8 (d.crash keep torn cut) ∧ (d.crash keep torn cut).pend = []) := ⟨HI.out.up.crash _ _ _, rfl⟩
                    generalize d.crash keep torn cut = d3 at CC0 Z0 U3
                    have CC : Hid _ := CC0
                    have hw8 : was.length = 8 := W0.out.1
                    obtain ⟨r6, c7, e6, _, _, _, _⟩ := S.out.up1.cell (j := 0) (by simp [hw8])
                    rw [show (was.map Value.string).length = 8 by simp [hw8]] at e6
                    cases e6
                    clear CC0 HI W0
                    go_wp2_with fail
                    refine Calls.mono CC.out ?_
                    rintro e w9 ⟨rfl, s9⟩
                    have S9 : Hid (Sep w.heap.size w w9 [RowR 4 (.slice (some ⟨rt, 0, none⟩) 8 8) (tl.map .bool), RowR 9 (.slice (some ⟨r6, 0, none⟩) 8 c6) (was.map .string), Disk b d3]) := s9.dn2
                    obtain ⟨sure3, hs3⟩ : ∃ s, s = d3.sure := ⟨_, rfl⟩
                    rw [← hs3] at Z0
                    have U4 : Hid (Up 8 d3 ∧ d3.pend = [] ∧ d3.sure = sure3) := ⟨U3.out.1, U3.out.2, hs3.symm⟩
                    clear s9 CC U3 hs3 S
                    go_wp2
                    go_loopg [22] 8 (fun gk s22 wr => ∃ (u : Nat) (d : Dk), s22 = .int .i64 u ∧ u ≤ 8 ∧ 8 - u ≤ gk ∧ Hid (Up 8 d ∧ d.pend = [] ∧ d.sure = sure3) ∧ Aside (Sep w.heap.size w wr [RowR 4 (.slice (some ⟨rt, 0, none⟩) 8 8) (tl.map .bool), RowR 9 (.slice (some ⟨r6, 0, none⟩) 8 c6) (was.map .string), Disk b d]))
                    case atStart => exact ⟨0, d3, rfl, by omega, by omega, U4, S9.out⟩
                    case round =>
                      clear S9 U4
                      obtain ⟨u, d, rfl, hu, hgu, HI, S⟩ := hrel
                      by_cases hul : u < 8
                      · have huz : (u : Int) < 8 := by omega
                        have CR0 := read_s S.out.up2 (u : Int)
                        obtain ⟨g1, g2, g3, g4, g5⟩ := HI.out.1.get u hul
                        rw [g1, HI.out.1.now_sure HI.out.2.1, HI.out.2.2] at CR0
                        have HI2 : Hid (Up 8 (d.get u).2 ∧ (d.get u).2.pend = [] ∧ (d.get u).2.sure = sure3) := ⟨g2, g4.trans HI.out.2.1, g5.trans HI.out.2.2⟩
                        have ES : Hid ((d.get u).2.sureAt u = sAt sure3 u) := by show _ = _; rw [g2.sureAt hul, g5, HI.out.2.2]
                        generalize (d.get u).2 = d2 at CR0 HI2 ES
                        have ZU : Hid (bAt tl u = false → sAt sure3 u = sAt was u) := Z0.out u hul
                        generalize sAt sure3 u = x at CR0 ES ZU
                        have CR : Hid _ := CR0
                        clear CR0 g1 g2 g3 g4 g5
                        go_wp2_with fail
                        refine Calls.mono CR.out ?_
                        rintro e w4 ⟨rfl, s4⟩
                        have S4 : Aside (Sep w.heap.size w w4 [RowR 4 (.slice (some ⟨rt, 0, none⟩) 8 8) (tl.map .bool), RowR 9 (.slice (some ⟨r6, 0, none⟩) 8 c6) (was.map .string), Disk b d2]) := s4.dn2
                        have CU0 := sure_s s4 (u : Int)
                        rw [ES.out] at CU0
                        have CU : Hid _ := CU0
                        obtain ⟨y5, _⟩ := Sep.bool_at S4.out (i := u) (by omega)
                        have y6 : w4.cell? ⟨r6, u, none⟩ = some (.string (sAt was u)) := Sep.str_at S4.out.up1 (by omega)
                        clear s4 CR CU0
                        cases hbt : bAt tl u with
                        | true =>
                          rw [hbt] at y5
                          clear hbt ZU y6
                          go_wp2_with fail
                          refine Calls.mono CU.out ?_
                          rintro e w5 ⟨rfl, rfl⟩
                          clear CU
                          go_wp2
                          go_roundg (8 - (u + 1))
                          case measure => omega
                          case rel => exact ⟨u + 1, d2, by go_num, by omega, Nat.le_refl _, HI2, S4⟩
                        | false =>
                          rw [hbt] at y5
                          rw [← ZU.out hbt] at y6
                          clear hbt ZU
                          go_wp2_with fail
                          refine Calls.mono CU.out ?_
                          rintro e w5 ⟨rfl, rfl⟩
                          clear CU
                          go_wp2
                          go_roundg (8 - (u + 1))
                          case measure => omega
                          case rel => exact ⟨u + 1, d2, by go_num, by omega, Nat.le_refl _, HI2, S4⟩
                      · have huz : ¬ (u : Int) < 8 := by omega
                        have CP0 := pending_s S.out.up2
                        rw [HI.out.2.1] at CP0
                        have CP : Hid _ := CP0
                        have CD0 := down_s S.out.up2
                        rw [HI.out.1.dn] at CD0
                        have CD : Hid _ := CD0
                        clear CP0 CD0
                        go_wp2_with fail
                        refine Calls.mono CP.out ?_
                        rintro e w5 ⟨rfl, rfl⟩
                        go_wp2_with fail
                        refine Calls.mono CD.out ?_
                        rintro e w5 ⟨rfl, rfl⟩
                        go_wp2
                        go_ret
                        exact ⟨rfl, S.out.bel⟩

end Go.Proofs.Ytnmmikgmhoecpaa

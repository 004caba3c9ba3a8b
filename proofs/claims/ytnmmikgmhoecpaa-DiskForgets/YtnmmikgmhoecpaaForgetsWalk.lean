/-
  The walk of the law DiskForgets.
-/
import Derived.Test.YtnmmikgmhoecpaaUp2
namespace Go.Proofs.Ytnmmikgmhoecpaa
open Go.RowKit
set_option linter.unusedVariables false

theorem Up.put_len {n t : Nat} {d : Dk} (h : Up n d) (hp : d.pend.length ≤ t) (i : Int) (s : ByteArray) : Up n (d.put i s).2 ∧ (d.put i s).2.pend.length ≤ t + 1 ∧ (d.put i s).2.sure = d.sure := by
  rcases h.put i s with ⟨_, _, _, _, p4, p5, p6, _⟩ | ⟨_, p2, _⟩
  · exact ⟨p4, by rw [p5]; simp; omega, p6⟩
  · rw [p2]; exact ⟨h, by omega, rfl⟩
def numsTo (n : Nat) : List Int := (List.range n).map fun (k : Nat) => (k : Int)
theorem numsTo_succ (n : Nat) : numsTo (n + 1) = numsTo n ++ [(n : Int)] := by simp [numsTo, List.range_succ]
theorem numsTo_length (n : Nat) : (numsTo n).length = n := by simp [numsTo]
theorem numsTo_contains {n k : Nat} (h : k < n) : (numsTo n).contains (k : Int) = true := by
  simp only [numsTo, List.contains_eq_mem, decide_eq_true_eq, List.mem_map, List.mem_range]
  exact ⟨k, h, rfl⟩
theorem Sep.ints {B : Nat} {w0 w : World} {l : List Res} {v : Value} {ns : List Int} (h : Sep B w0 w (RowR 3 v (ns.map (Value.int .i64)) :: l)) : IntRow w v ns := by
  obtain ⟨ao, c, e⟩ := h.shape
  refine ⟨ao, c, by rw [e]; simp, fun hne => ?_⟩
  have hpos : 0 < ns.length := List.length_pos_iff.2 hne
  obtain ⟨r, c', e', _, hr, _, _⟩ := h.cell (j := 0) (by simpa using hpos)
  rw [e] at e'
  cases e'
  refine ⟨r, 0, rfl, hr, fun j hj => ?_⟩
  obtain ⟨r2, c2, e2, _, _, hc, _⟩ := h.cell (j := j) (by simpa using hj)
  rw [e] at e2
  cases e2
  rw [Nat.zero_add, hc]
  simp [List.getD_eq_getElem?_getD, hj]
theorem row_none (w : World) : IntRow w (.slice none 0 0) [] := ⟨none, 0, rfl, fun h => absurd rfl h⟩

set_option maxHeartbeats 16000000 in
set_option maxRecDepth 100000 in
theorem forgets_walk (v : Value) (l : List A1) (lv : Value) (later : List A1) (w : World) (h : ActRow w v l) (h2 : ActRow w lv later) :
    Calls Try.prog 5 #[v, lv] w fun e w' => e = .returned (.bool true) ∧ Below w.heap.size w w' := by
  have CW : Hid _ := works_c w
  obtain ⟨ao, cap, rfl, hrow⟩ := h.row
  have HA : Hid (ActRow w (.slice ao l.length cap) l) := h
  obtain ⟨al, cl, rfl, hrl⟩ := h2.row
  have HA2 : Hid (ActRow w (.slice al later.length cl) later) := h2
  clear h h2 hrow hrl
  obtain ⟨lb1, hb1⟩ : ∃ x, x = lightB 8 l := ⟨_, rfl⟩
  obtain ⟨lb2, hb2⟩ : ∃ x, x = lightB 8 later := ⟨_, rfl⟩
  have HB1 : Hid (lb1 = lightB 8 l) := hb1
  have HB2 : Hid (lb2 = lightB 8 later) := hb2
  clear hb1 hb2
  cases lb1 with
  | false =>
    go_enter Try.func5, Try.ntmps5
    go_wp2_with fail
    refine Calls.mono CW.out ?_
    rintro e w1 ⟨rfl, b1⟩
    have CL0 := light_c 8 _ l w1 (HA.out.below b1 (Nat.le_refl _))
    rw [← HB1.out] at CL0
    have CL : Hid _ := CL0
    have CM0 := light_c 8 _ later w1 (HA2.out.below b1 (Nat.le_refl _))
    rw [← HB2.out] at CM0
    have CM : Hid _ := CM0
    have S1 : Hid (Sep w.heap.size w w1 []) := Sep.nil b1.size b1
    clear b1 CW CL0 CM0
    go_wp2_with fail
    refine Calls.mono CL.out ?_
    rintro e w2 ⟨rfl, rfl⟩
    go_wp2_with fail
    refine Calls.mono CM.out ?_
    rintro e w2 ⟨rfl, rfl⟩
    clear CL CM
    go_wp2
    go_ret
    exact ⟨rfl, S1.out.bel⟩
  | true =>
    cases lb2 with
    | false =>
      go_enter Try.func5, Try.ntmps5
      go_wp2_with fail
      refine Calls.mono CW.out ?_
      rintro e w1 ⟨rfl, b1⟩
      have CL0 := light_c 8 _ l w1 (HA.out.below b1 (Nat.le_refl _))
      rw [← HB1.out] at CL0
      have CL : Hid _ := CL0
      have CM0 := light_c 8 _ later w1 (HA2.out.below b1 (Nat.le_refl _))
      rw [← HB2.out] at CM0
      have CM : Hid _ := CM0
      have S1 : Hid (Sep w.heap.size w w1 []) := Sep.nil b1.size b1
      clear b1 CW CL0 CM0
      go_wp2_with fail
      refine Calls.mono CL.out ?_
      rintro e w2 ⟨rfl, rfl⟩
      go_wp2_with fail
      refine Calls.mono CM.out ?_
      rintro e w2 ⟨rfl, rfl⟩
      clear CL CM
      go_wp2
      go_ret
      exact ⟨rfl, S1.out.bel⟩
    | true =>
      have hll : l.length ≤ 60 := by have h := HB1.out.symm; unfold lightB at h; simp at h; omega
      have hl2 : later.length ≤ 60 := by have h := HB2.out.symm; unfold lightB at h; simp at h; omega
      go_enter Try.func5, Try.ntmps5
      go_wp2_with fail
      refine Calls.mono CW.out ?_
      rintro e w1 ⟨rfl, b1⟩
      have CL0 := light_c 8 _ l w1 (HA.out.below b1 (Nat.le_refl _))
      rw [← HB1.out] at CL0
      have CL : Hid _ := CL0
      have CM0 := light_c 8 _ later w1 (HA2.out.below b1 (Nat.le_refl _))
      rw [← HB2.out] at CM0
      have CM : Hid _ := CM0
      have S1 : Hid (Sep w.heap.size w w1 []) := Sep.nil b1.size b1
      clear b1 CW CL0 CM0
      go_wp2_with fail
      refine Calls.mono CL.out ?_
      rintro e w2 ⟨rfl, rfl⟩
      go_wp2_with fail
      refine Calls.mono CM.out ?_
      rintro e w2 ⟨rfl, rfl⟩
      clear CL CM
      have CN : Hid _ := new_s 8 S1.out
      go_wp2_with fail
      refine Calls.mono CN.out ?_
      rintro e w3 ⟨b, rfl, s3⟩
      have CN2 : Hid _ := new_s 8 s3
      clear s3 CN S1
      go_wp2_with fail
      refine Calls.mono CN2.out ?_
      rintro e w4 ⟨c, rfl, s4⟩
      have S3 : Hid (Sep w.heap.size w w4 [Disk b (Dk.new 8), Disk c (Dk.new 8)]) := s4.up1
      clear s4 CN2
      go_wp2
      go_loopg [10] l.length (fun gk s14 wr => ∃ (t : Nat) (d : Dk), s14 = .int .i64 t ∧ t ≤ l.length ∧ l.length - t ≤ gk ∧ Hid (Up 8 d ∧ d.pend.length ≤ t ∧ d.sure = d.sure) ∧ Aside (Sep w.heap.size w wr [Disk b d, Disk c d]))
      case atStart => exact ⟨0, _, rfl, Nat.zero_le _, Nat.le_refl _, ⟨Up.new 8 (by omega), Nat.le_refl _, rfl⟩, S3.out⟩
      case round =>
        clear S3
        obtain ⟨t, d, rfl, ht, hgt, HI, S⟩ := hrel
        by_cases htl : t < l.length
        · have htz : (t : Int) < (l.length : Int) := by omega
          obtain ⟨r, o, rfl, hr, x0, x1, x2, x3, x4, x5, _, hb, _⟩ := HA.out.at S.out.bel (Nat.le_refl _) htl
          obtain ⟨A, hA⟩ : ∃ A, l.getD t a0 = A := ⟨_, rfl⟩
          have EA : Hid (l.getD t a0 = A) := hA
          rw [hA] at x1 x2 hb
          clear hA x0 x3 x4 x5
          have I6 : Hid _ := Up.put_len HI.out.1 HI.out.2.1 A.i (pageS A.b)
          have CW0 := fun u (hu : Sep w.heap.size w u [Disk b d, Disk c d]) => write_s hu A.i (pageS A.b) (pageS_le _) (by have := HI.out.2.1; omega)
          have CW1 := fun u (hu : Sep w.heap.size w u [Disk b (d.put A.i (pageS A.b)).2, Disk c d]) => write_s hu.up1 A.i (pageS A.b) (pageS_le _) (by have := HI.out.2.1; omega)
          generalize (d.put A.i (pageS A.b)).1 = er at CW0 CW1
          generalize (d.put A.i (pageS A.b)).2 = d2 at CW0 CW1 I6
          have CWr : Hid _ := CW0
          have CWs : Hid _ := CW1
          clear CW0 CW1
          go_wp2
          go_region_law (first | (go_simp; refine Calls.mono (page_o A.b hb _) ?_; rintro e w4 ⟨rfl, lx⟩; have Sw4 : Hid (Sep w.heap.size w w4 [Disk b d, Disk c d]) := S.out.drew.below lx; have y1 : w4.cell? ⟨r, o + t * 6 + 1, none⟩ = some (.int .i64 A.i) := (World.cell?_of_block (a := ⟨r, o + t * 6 + 1, none⟩) (lx.block r hr)).trans x1; clear lx; dsimp only) | (go_simp; refine Calls.mono (CWr.out _ (Hid.out (by assumption))) ?_; rintro e w5 ⟨rfl, sx⟩; have Sw5 : Hid (Sep w.heap.size w w5 [Disk b d2, Disk c d]) := sx; clear sx; dsimp only))
          all_goals
            obtain ⟨z0, z1, z2, hr5⟩ := HA.out.cells Sw5.out.bel (Nat.le_refl _) htl EA.out
            clear CWr S x1 x2 hr z0
            go_wp2
            go_region_law (first | (go_simp; refine Calls.mono (page_o A.b hb _) ?_; rintro e w6 ⟨rfl, lx⟩; have Sw6 : Hid (Sep w.heap.size w w6 [Disk b d2, Disk c d]) := Sw5.out.drew.below lx; have y2 : w6.cell? ⟨r, o + t * 6 + 1, none⟩ = some (.int .i64 A.i) := (World.cell?_of_block (a := ⟨r, o + t * 6 + 1, none⟩) (lx.block r hr5)).trans z1; clear lx; dsimp only) | (go_simp; refine Calls.mono (CWs.out _ (Hid.out (by assumption))) ?_; rintro e w7 ⟨rfl, sx⟩; have Sw7 : Hid (Sep w.heap.size w w7 [Disk b d2, Disk c d2]) := sx.up1; clear sx; dsimp only))
            all_goals
              clear CWs
              go_wp2
              go_roundg (l.length - (t + 1))
              case measure => omega
              case rel => exact ⟨t + 1, d2, by go_num, by omega, Nat.le_refl _, ⟨I6.out.1, I6.out.2.1, by first | rfl | trivial⟩, Sw7.out⟩
        · have htz : ¬ (t : Int) < (l.length : Int) := by omega
          have CS0 := sync_s S.out (by have := HI.out.2.1; omega)
          obtain ⟨q1, q2, q3, q4, q5⟩ := HI.out.1.sync S.out.ok
          have CS1 := fun u (hu : Sep w.heap.size w u [Disk c d, Disk b d.sync.2]) => sync_s hu (by have := HI.out.2.1; omega)
          have I7 : Hid (Up 8 d.sync.2 ∧ d.sync.2.pend = []) := ⟨q2, q4⟩
          generalize d.sync.1 = e7 at CS0 CS1
          generalize d.sync.2 = d7 at CS0 CS1 I7
          have CS : Hid _ := CS0
          have CSb : Hid _ := CS1
          clear CS0 CS1 q1 q2 q3 q4 q5 HI
          go_wp2_with fail
          refine Calls.mono CS.out ?_
          rintro e w7 ⟨rfl, s7⟩
          have CS2 : Hid _ := CSb.out w7 s7.up1
          clear s7 CS CSb
          go_wp2_with fail
          refine Calls.mono CS2.out ?_
          rintro e w8 ⟨rfl, s8⟩
          have S8 : Hid (Sep w.heap.size w w8 [RowR 9 (.slice none 0 0) [], Disk b d7, Disk c d7]) := s8.up1.addNil _
          clear s8 CS2 S
          go_wp2
          go_loopg [11, 12] 8 (fun gk s6 s7 wr => ∃ (t : Nat) (a6 : Option Addr) (n6 c6 : Nat) (was : List ByteArray), s6 = .slice a6 n6 c6 ∧ s7 = .int .i64 t ∧ t ≤ 8 ∧ 8 - t ≤ gk ∧ Hid (was.length = t ∧ ∀ j, j < t → sAt d7.sure j = sAt was j) ∧ Aside (Sep w.heap.size w wr [RowR 9 (.slice a6 n6 c6) (was.map .string), Disk b d7, Disk c d7]))
          case atStart => exact ⟨0, none, 0, 0, [], rfl, rfl, by omega, by omega, ⟨rfl, fun j hj => absurd hj (by omega)⟩, S8.out⟩
          case round =>
            clear S8
            obtain ⟨t, a6, n6, c6, was, rfl, rfl, ht, hgt, HI, S⟩ := hrel
            by_cases htl : t < 8
            · have htz : (t : Int) < 8 := by omega
              have CU0 := sure_s S.out.up1 (t : Int)
              rw [I7.out.1.sureAt htl] at CU0
              have HI2 : Hid _ := was_snoc HI.out.1 HI.out.2
              have hwl : was.length = t := HI.out.1
              generalize hx : sAt d7.sure t = x at CU0 HI2
              have CU : Hid _ := CU0
              clear CU0 hx
              go_wp2_with fail
              refine Calls.mono CU.out ?_
              rintro e w4 ⟨rfl, rfl⟩
              clear CU
              go_wp2_with (at_builtin; refine app_str rfl _ _ rfl _ _ rfl (S.out.alloc _) wr.heap.size 1 x rfl (by simp) (by simp; omega) ?_)
              intro a7 n7 c7 w5 s5
              have S5 : Hid (Sep w.heap.size w w5 [RowR 9 (.slice a7 n7 c7) ((was ++ [x]).map .string), Disk b d7, Disk c d7]) := by show Sep _ _ _ _; rw [List.map_append]; exact s5
              clear s5 S
              go_wp2
              go_roundg (8 - (t + 1))
              case measure => omega
              case rel => exact ⟨t + 1, a7, n7, c7, was ++ [x], rfl, by go_num, by omega, Nat.le_refl _, HI2, S5.out⟩
            · have htz : ¬ (t : Int) < 8 := by omega
              obtain rfl : t = 8 := by omega
              have hw8 : was.length = 8 := HI.out.1
              obtain ⟨r6, c7, e6, _, _, _, _⟩ := S.out.cell (j := 0) (by simp [hw8])
              rw [show (was.map Value.string).length = 8 by simp [hw8]] at e6
              cases e6
              obtain ⟨sure0, hs0⟩ : ∃ s, s = d7.sure := ⟨_, rfl⟩
              have W0 : Hid (∀ j, j < 8 → sAt sure0 j = sAt was j) := by rw [hs0]; exact HI.out.2
              have K0 : Hid (Up 8 d7 ∧ d7.pend.length ≤ 0 ∧ d7.sure = sure0) := ⟨I7.out.1, by rw [I7.out.2]; exact Nat.le_refl _, hs0.symm⟩
              have SN : Hid (Sep w.heap.size w wr [RowR 3 (.slice none 0 0) [], RowR 9 (.slice (some ⟨r6, 0, none⟩) 8 c6) (was.map .string), Disk b d7, Disk c d7]) := S.out.addNil _
              clear HI I7 hs0 S
              go_wp2
              go_loopg [13, 14] later.length (fun gk s13 s14 wr => ∃ (t : Nat) (d : Dk) (a7 : Option Addr) (n7 c7 : Nat), s13 = .slice a7 n7 c7 ∧ s14 = .int .i64 t ∧ t ≤ later.length ∧ later.length - t ≤ gk ∧ Hid (Up 8 d ∧ d.pend.length ≤ t ∧ d.sure = sure0) ∧ Aside (Sep w.heap.size w wr [RowR 3 (.slice a7 n7 c7) ((numsTo t).map (.int .i64)), RowR 9 (.slice (some ⟨r6, 0, none⟩) 8 c6) (was.map .string), Disk b d, Disk c d]))
              case atStart => exact ⟨0, d7, none, 0, 0, rfl, rfl, Nat.zero_le _, Nat.le_refl _, K0, SN.out⟩
              case round =>
                clear SN K0
                obtain ⟨t, d, a7, n7, c7, rfl, rfl, ht, hgt, HI, S⟩ := hrel
                by_cases htl : t < later.length
                · have htz : (t : Int) < (later.length : Int) := by omega
                  obtain ⟨r, o, rfl, hr, x0, x1, x2, x3, x4, x5, _, hb, _⟩ := HA2.out.at S.out.bel (Nat.le_refl _) htl
                  obtain ⟨A, hA⟩ : ∃ A, later.getD t a0 = A := ⟨_, rfl⟩
                  have EA : Hid (later.getD t a0 = A) := hA
                  rw [hA] at x1 x2 hb
                  clear hA x0 x3 x4 x5
                  have I6 : Hid _ := Up.put_len HI.out.1 HI.out.2.1 A.i (pageS A.b)
                  have CW0 := fun u (hu : Sep w.heap.size w u [RowR 3 (.slice a7 n7 c7) ((numsTo t).map (.int .i64)), RowR 9 (.slice (some ⟨r6, 0, none⟩) 8 c6) (was.map .string), Disk b d, Disk c d]) => write_s hu.up2 A.i (pageS A.b) (pageS_le _) (by have := HI.out.2.1; omega)
                  have CW1 := fun u (hu : Sep w.heap.size w u [RowR 3 (.slice a7 n7 c7) ((numsTo t).map (.int .i64)), RowR 9 (.slice (some ⟨r6, 0, none⟩) 8 c6) (was.map .string), Disk b (d.put A.i (pageS A.b)).2, Disk c d]) => write_s hu.up3 A.i (pageS A.b) (pageS_le _) (by have := HI.out.2.1; omega)
                  generalize (d.put A.i (pageS A.b)).1 = er at CW0 CW1
                  generalize (d.put A.i (pageS A.b)).2 = d2 at CW0 CW1 I6
                  have CWr : Hid _ := CW0
                  have CWs : Hid _ := CW1
                  clear CW0 CW1
                  go_wp2
                  go_region_law (first | (go_simp; refine Calls.mono (page_o A.b hb _) ?_; rintro e w4 ⟨rfl, lx⟩; have Sw4 : Hid (Sep w.heap.size w w4 [RowR 3 (.slice a7 n7 c7) ((numsTo t).map (.int .i64)), RowR 9 (.slice (some ⟨r6, 0, none⟩) 8 c6) (was.map .string), Disk b d, Disk c d]) := S.out.drew.below lx; have y1 : w4.cell? ⟨r, o + t * 6 + 1, none⟩ = some (.int .i64 A.i) := (World.cell?_of_block (a := ⟨r, o + t * 6 + 1, none⟩) (lx.block r hr)).trans x1; clear lx; dsimp only) | (go_simp; refine Calls.mono (CWr.out _ (Hid.out (by assumption))) ?_; rintro e w5 ⟨rfl, sx⟩; have Sw5 : Hid (Sep w.heap.size w w5 [RowR 3 (.slice a7 n7 c7) ((numsTo t).map (.int .i64)), RowR 9 (.slice (some ⟨r6, 0, none⟩) 8 c6) (was.map .string), Disk b d2, Disk c d]) := sx.dn2; clear sx; dsimp only))
                  all_goals
                    obtain ⟨z0, z1, z2, hr5⟩ := HA2.out.cells Sw5.out.bel (Nat.le_refl _) htl EA.out
                    clear CWr S x1 x2 hr z0
                    go_wp2
                    go_region_law (first | (go_simp; refine Calls.mono (page_o A.b hb _) ?_; rintro e w6 ⟨rfl, lx⟩; have Sw6 : Hid (Sep w.heap.size w w6 [RowR 3 (.slice a7 n7 c7) ((numsTo t).map (.int .i64)), RowR 9 (.slice (some ⟨r6, 0, none⟩) 8 c6) (was.map .string), Disk b d2, Disk c d]) := Sw5.out.drew.below lx; have y2 : w6.cell? ⟨r, o + t * 6 + 1, none⟩ = some (.int .i64 A.i) := (World.cell?_of_block (a := ⟨r, o + t * 6 + 1, none⟩) (lx.block r hr5)).trans z1; clear lx; dsimp only) | (go_simp; refine Calls.mono (CWs.out _ (Hid.out (by assumption))) ?_; rintro e w7 ⟨rfl, sx⟩; have Sw7 : Hid (Sep w.heap.size w w7 [RowR 3 (.slice a7 n7 c7) ((numsTo t).map (.int .i64)), RowR 9 (.slice (some ⟨r6, 0, none⟩) 8 c6) (was.map .string), Disk b d2, Disk c d2]) := sx.dn3; clear sx; dsimp only))
                    all_goals
                      clear CWs
                      go_wp2_with (at_builtin; refine app_int rfl _ _ rfl _ _ rfl (Sw7.out.alloc _) w7.heap.size 1 (t : Int) rfl (by simp) (by simp [numsTo_length]; omega) ?_)
                      intro a8 n8 c8 w8 s8
                      have S9 : Hid (Sep w.heap.size w w8 [RowR 3 (.slice a8 n8 c8) ((numsTo (t + 1)).map (.int .i64)), RowR 9 (.slice (some ⟨r6, 0, none⟩) 8 c6) (was.map .string), Disk b d2, Disk c d2]) := by show Sep _ _ _ _; rw [numsTo_succ, List.map_append]; exact s8
                      clear s8 Sw7
                      go_wp2
                      go_roundg (later.length - (t + 1))
                      case measure => omega
                      case rel => exact ⟨t + 1, d2, a8, n8, c8, rfl, by go_num, by omega, Nat.le_refl _, ⟨I6.out.1, I6.out.2.1, I6.out.2.2.trans HI.out.2.2⟩, S9.out⟩
                · have htz : ¬ (t : Int) < (later.length : Int) := by omega
                  obtain rfl : t = later.length := by omega
                  have SN : Hid (Sep w.heap.size w wr [RowR 9 (.slice none 0 0) [], RowR 3 (.slice a7 n7 c7) ((numsTo later.length).map (.int .i64)), RowR 9 (.slice (some ⟨r6, 0, none⟩) 8 c6) (was.map .string), Disk b d, Disk c d]) := S.out.addNil _
                  have K0 : Hid (Up 8 d ∧ d.pend = d.pend ∧ ∀ i, d.now i = d.now i) := ⟨HI.out.1, rfl, fun _ => rfl⟩
                  clear S
                  go_wp2
                  go_loopg [15, 16] 8 (fun gk s6 s7 wr => ∃ (u : Nat) (f : Dk) (a9 : Option Addr) (n9 c9 : Nat) (nw : List ByteArray), s6 = .slice a9 n9 c9 ∧ s7 = .int .i64 u ∧ u ≤ 8 ∧ 8 - u ≤ gk ∧ Hid (Up 8 f ∧ f.pend = d.pend ∧ f.sure = d.sure ∧ nw.length = u ∧ ∀ j, j < u → d.now j = sAt nw j) ∧ Aside (Sep w.heap.size w wr [RowR 9 (.slice a9 n9 c9) (nw.map .string), RowR 3 (.slice a7 n7 c7) ((numsTo later.length).map (.int .i64)), RowR 9 (.slice (some ⟨r6, 0, none⟩) 8 c6) (was.map .string), Disk b d, Disk c f]))
                  case atStart => exact ⟨0, d, none, 0, 0, [], rfl, rfl, by omega, by omega, ⟨HI.out.1, rfl, rfl, rfl, fun j hj => absurd hj (by omega)⟩, SN.out⟩
                  case round =>
                    clear SN K0
                    obtain ⟨u, f, a9, n9, c9, nw, rfl, rfl, hu, hgu, HF, S⟩ := hrel
                    by_cases hul : u < 8
                    · have huz : (u : Int) < 8 := by omega
                      have CR0 := read_s S.out.up4 (u : Int)
                      obtain ⟨g1, g2, g3, g4, g5⟩ := HF.out.1.get u hul
                      have en : f.now u = d.now u := by unfold Dk.now; rw [HF.out.2.1, HF.out.2.2.1]
                      rw [g1, en] at CR0
                      have HI2 : Hid (Up 8 (f.get u).2 ∧ (f.get u).2.pend = d.pend ∧ (f.get u).2.sure = d.sure ∧ (nw ++ [d.now u]).length = u + 1 ∧ ∀ j, j < u + 1 → d.now j = sAt (nw ++ [d.now u]) j) := ⟨g2, g4.trans HF.out.2.1, g5.trans HF.out.2.2.1, now_snoc_was HF.out.2.2.2.1 HF.out.2.2.2.2⟩
                      have hwl : nw.length = u := HF.out.2.2.2.1
                      generalize (f.get u).2 = f2 at CR0 HI2
                      obtain ⟨x, hx⟩ : ∃ x, x = d.now u := ⟨_, rfl⟩
                      rw [← hx] at CR0 HI2
                      have CR : Hid _ := CR0
                      clear CR0 g1 g2 g3 g4 g5 en hx
                      go_wp2_with fail
                      refine Calls.mono CR.out ?_
                      rintro e w4 ⟨rfl, s4⟩
                      have S4 : Hid (Sep w.heap.size w w4 [RowR 9 (.slice a9 n9 c9) (nw.map .string), RowR 3 (.slice a7 n7 c7) ((numsTo later.length).map (.int .i64)), RowR 9 (.slice (some ⟨r6, 0, none⟩) 8 c6) (was.map .string), Disk b d, Disk c f2]) := s4.dn4
                      clear s4 CR S
                      go_wp2_with (at_builtin; refine app_str rfl _ _ rfl _ _ rfl (S4.out.alloc _) w4.heap.size 1 x rfl (by simp) (by simp; omega) ?_)
                      intro a8 n8 c8 w5 s5
                      have S5 : Hid (Sep w.heap.size w w5 [RowR 9 (.slice a8 n8 c8) ((nw ++ [x]).map .string), RowR 3 (.slice a7 n7 c7) ((numsTo later.length).map (.int .i64)), RowR 9 (.slice (some ⟨r6, 0, none⟩) 8 c6) (was.map .string), Disk b d, Disk c f2]) := by show Sep _ _ _ _; rw [List.map_append]; exact s5
                      clear s5 S4
                      go_wp2
                      go_roundg (8 - (u + 1))
                      case measure => omega
                      case rel => exact ⟨u + 1, f2, a8, n8, c8, nw ++ [x], rfl, by go_num, by omega, Nat.le_refl _, HI2, S5.out⟩
                    · have huz : ¬ (u : Int) < 8 := by omega
                      obtain rfl : u = 8 := by omega
                      have hn8 : nw.length = 8 := HF.out.2.2.2.1
                      obtain ⟨r9, c8, e6, _, _, _, _⟩ := S.out.cell (j := 0) (by simp [hn8])
                      rw [show (nw.map Value.string).length = 8 by simp [hn8]] at e6
                      cases e6
                      have CC0 := crash_s S.out.up3 _ _ (row_none _) 0 0 (by have := HI.out.2.1; omega) (by simp)
                      have U1 : Hid (Up 8 (d.crash [] 0 0) ∧ ∀ j, j < 8 → sAt (d.crash [] 0 0).sure j = sAt was j) := ⟨HI.out.1.crash _ _ _, fun j hj => by
                        rw [← W0.out j hj, ← HI.out.2.2]
                        show sAt (crashTo d.pend [] 0 0 d.sure d.pend.length) j = _
                        rw [crashTo_none _ _ _ _ _ _ (fun k _ => rfl)]⟩
                      have U2 : Hid (Up 8 (f.crash (numsTo later.length) (-1) 0) ∧ ∀ j, j < 8 → sAt (f.crash (numsTo later.length) (-1) 0).sure j = sAt nw j) := ⟨HF.out.1.crash _ _ _, fun j hj => by
                        rw [← HF.out.2.2.2.2 j hj]
                        show sAt (crashTo f.pend (numsTo later.length) (-1) 0 f.sure f.pend.length) j = _
                        rw [crashTo_all S.out.up4.ok _ _ _ _ (Nat.le_refl _) (fun k hk => numsTo_contains (by rw [HF.out.2.1] at hk; have := HI.out.2.1; omega))]
                        unfold Dk.now
                        rw [HF.out.2.1, HF.out.2.2.1]⟩
                      have PF : Hid (f.pend.length < 100000) := by show _ < _; rw [HF.out.2.1]; have := HI.out.2.1; omega
                      generalize d.crash [] 0 0 = d8 at CC0 U1
                      have CC : Hid _ := CC0
                      clear CC0 HI
                      go_wp2_with fail
                      refine Calls.mono CC.out ?_
                      rintro e w5 ⟨rfl, s5⟩
                      have S5 : Hid (Sep w.heap.size w w5 [RowR 9 (.slice (some ⟨r9, 0, none⟩) 8 c9) (nw.map .string), RowR 3 (.slice a7 n7 c7) ((numsTo later.length).map (.int .i64)), RowR 9 (.slice (some ⟨r6, 0, none⟩) 8 c6) (was.map .string), Disk b d8, Disk c f]) := s5.dn3
                      have CC1 := crash_s S5.out.up4 _ _ S5.out.up1.ints (-1) 0 PF.out (by rw [numsTo_length]; omega)
                      generalize f.crash (numsTo later.length) (-1) 0 = f8 at CC1 U2
                      have CCe : Hid _ := CC1
                      clear CC1 s5 CC HF S
                      go_wp2_with fail
                      refine Calls.mono CCe.out ?_
                      rintro e w6 ⟨rfl, s6⟩
                      have S6 : Hid (Sep w.heap.size w w6 [RowR 9 (.slice (some ⟨r9, 0, none⟩) 8 c9) (nw.map .string), RowR 3 (.slice a7 n7 c7) ((numsTo later.length).map (.int .i64)), RowR 9 (.slice (some ⟨r6, 0, none⟩) 8 c6) (was.map .string), Disk b d8, Disk c f8]) := s6.dn4
                      clear s6 CCe S5
                      go_wp2
                      go_loopg [19] 8 (fun gk s19 wr => ∃ q : Nat, s19 = .int .i64 q ∧ q ≤ 8 ∧ 8 - q ≤ gk ∧ Aside (Sep w.heap.size w wr [RowR 9 (.slice (some ⟨r9, 0, none⟩) 8 c9) (nw.map .string), RowR 3 (.slice a7 n7 c7) ((numsTo later.length).map (.int .i64)), RowR 9 (.slice (some ⟨r6, 0, none⟩) 8 c6) (was.map .string), Disk b d8, Disk c f8]))
                      case atStart => exact ⟨0, rfl, by omega, by omega, S6.out⟩
                      case round =>
                        clear S6
                        obtain ⟨q, rfl, hq, hgq, S⟩ := hrel
                        by_cases hql : q < 8
                        · have hqz : (q : Int) < 8 := by omega
                          have CU0 := fun n => sure_s (S.out.up3.drewN n) (q : Int)
                          rw [U1.out.1.sureAt hql, U1.out.2 q hql] at CU0
                          have CV0 := fun n => sure_s (S.out.up4.drewN n) (q : Int)
                          rw [U2.out.1.sureAt hql, U2.out.2 q hql] at CV0
                          have y6 : wr.cell? ⟨r6, q, none⟩ = some (.string (sAt was q)) := Sep.str_at S.out.up2 (by omega)
                          have y9 : wr.cell? ⟨r9, q, none⟩ = some (.string (sAt nw q)) := Sep.str_at S.out (by omega)
                          generalize sAt was q = xa at y6 CU0
                          generalize sAt nw q = xb at y9 CV0
                          have CU : Hid _ := CU0
                          have CV : Hid _ := CV0
                          clear CU0 CV0
                          go_wp2
                          go_quiet (first | (go_at_call_of 29 (ptr b); exact Calls.quiet_of_same ((CU.out _).mono fun _ _ h => ⟨h.1, h.2.symm⟩)) | (go_at_call_of 29 (ptr c); exact Calls.quiet_of_same ((CV.out _).mono fun _ _ h => ⟨h.1, h.2.symm⟩)))
                          go_wp2
                          go_roundg (8 - (q + 1))
                          case measure => omega
                          case rel => exact ⟨q + 1, by go_num, by omega, Nat.le_refl _, S.out.drewN _⟩
                        · have hqz : ¬ (q : Int) < 8 := by omega
                          go_wp2
                          go_ret
                          exact ⟨rfl, S.out.bel⟩

end Go.Proofs.Ytnmmikgmhoecpaa

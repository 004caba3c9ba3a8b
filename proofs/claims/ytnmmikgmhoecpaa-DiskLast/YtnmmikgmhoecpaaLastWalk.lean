/-
  The walk of the law DiskLast.
-/
import Derived.Test.YtnmmikgmhoecpaaUp
namespace Go.Proofs.Ytnmmikgmhoecpaa
open Go.RowKit
set_option linter.unusedVariables false

/-- What each sector is wanted to read as. -/
def Wants (d : Dk) (l : List ByteArray) : Prop := l.length = 8 ∧ ∀ j, j < 8 → d.now j = sAt l j

theorem Wants.set {d d2 : Dk} {want : List ByteArray} {i : Nat} {s : ByteArray} (h : Wants d want) (hi : i < 8) (hp : d2.pend = d.pend ++ [(i, s)]) (hs : d2.sure = d.sure) : Wants d2 (want.set i s) := by
  refine ⟨by rw [List.length_set]; exact h.1, fun j hj => ?_⟩
  rw [now_snoc hp hs, sAt_set _ (by rw [h.1]; exact hi), h.2 j hj]
theorem Wants.same {d d2 : Dk} {want : List ByteArray} (h : Wants d want) (hn : ∀ j, d2.now j = d.now j) : Wants d2 want := ⟨h.1, fun j hj => by rw [hn, h.2 j hj]⟩

set_option maxHeartbeats 8000000 in
set_option maxRecDepth 100000 in
theorem last_walk (v : Value) (l : List A1) (w : World) (h : ActRow w v l) : Calls Try.prog 8 #[v] w fun e w' => e = .returned (.bool true) ∧ Below w.heap.size w w' := by
  have CW : Hid _ := works_c w
  obtain ⟨ao, cap, rfl, _⟩ := h.row
  have HA : Hid (ActRow w (.slice ao l.length cap) l) := h
  clear h
  cases hlt : lightB 8 l with
  | false =>
    have HLT : Hid (lightB 8 l = false) := hlt
    clear hlt
    go_enter Try.func8, Try.ntmps8
    go_wp2_with fail
    refine Calls.mono CW.out ?_
    rintro e w1 ⟨rfl, b1⟩
    have B1 : Hid (Below w.heap.size w w1) := b1
    have CL0 := light_c 8 _ l w1 (HA.out.below b1 (Nat.le_refl _))
    rw [HLT.out] at CL0
    have CL : Hid _ := CL0
    clear b1 CW CL0
    go_wp2_with fail
    refine Calls.mono CL.out ?_
    rintro e w2 ⟨rfl, rfl⟩
    go_wp2
    go_ret
    exact ⟨rfl, B1.out⟩
  | true =>
    have HLT : Hid (lightB 8 l = true) := hlt
    have hll : l.length ≤ 60 := by unfold lightB at hlt; simp at hlt; omega
    clear hlt
    go_enter Try.func8, Try.ntmps8
    go_wp2_with fail
    refine Calls.mono CW.out ?_
    rintro e w1 ⟨rfl, b1⟩
    have CL0 := light_c 8 _ l w1 (HA.out.below b1 (Nat.le_refl _))
    rw [HLT.out] at CL0
    have CL : Hid _ := CL0
    have S1 : Hid (Sep w.heap.size w w1 []) := Sep.nil b1.size b1
    clear b1 CW CL0
    go_wp2_with fail
    refine Calls.mono CL.out ?_
    rintro e w2 ⟨rfl, rfl⟩
    have CN : Hid _ := new_s 8 S1.out
    go_wp2_with fail
    refine Calls.mono CN.out ?_
    rintro e w3 ⟨b, rfl, s3⟩
    have S3 : Hid (Sep w.heap.size w w3 [RowR 9 (.slice none 0 0) [], Disk b (Dk.new 8)]) := s3.addNil _
    clear s3 CN CL S1
    go_wp2
    go_loopg [6, 7] 8 (fun gk s6 s7 wr => ∃ (t : Nat) (d : Dk) (a6 : Option Addr) (n6 c6 : Nat) (want : List ByteArray), s6 = .slice a6 n6 c6 ∧ s7 = .int .i64 t ∧ t ≤ 8 ∧ 8 - t ≤ gk ∧ Hid (Up 8 d ∧ d.pend = [] ∧ want.length = t ∧ ∀ j, j < t → d.now j = sAt want j) ∧ Aside (Sep w.heap.size w wr [RowR 9 (.slice a6 n6 c6) (want.map .string), Disk b d]))
    case atStart => exact ⟨0, _, none, 0, 0, [], rfl, rfl, by omega, by omega, ⟨Up.new 8 (by omega), rfl, rfl, fun j hj => absurd hj (by omega)⟩, S3.out⟩
    case round =>
      obtain ⟨t, d, a6, n6, c6, want, rfl, rfl, ht, hgt, HI, S⟩ := hrel
      by_cases htl : t < 8
      · have htz : (t : Int) < 8 := by omega
        have CR0 := read_s S.out.up1 (t : Int)
        obtain ⟨g1, g2, g3, g4, g5⟩ := HI.out.1.get t htl
        rw [g1] at CR0
        have HI2 : Hid (Up 8 (d.get t).2 ∧ (d.get t).2.pend = [] ∧ (want ++ [d.now t]).length = t + 1 ∧ ∀ j, j < t + 1 → (d.get t).2.now j = sAt (want ++ [d.now t]) j) := by
          obtain ⟨i1, i2, i3, i4⟩ := HI.out
          refine ⟨g2, g4.trans i2, by simp [i3], fun j hj => ?_⟩
          rw [g3]
          unfold sAt
          rcases Nat.lt_or_eq_of_le (Nat.le_of_lt_succ hj) with hj2 | hj2
          · rw [i4 j hj2]; unfold sAt
            rw [List.getD_eq_getElem?_getD, List.getD_eq_getElem?_getD, List.getElem?_append_left (by omega)]
          · subst hj2; rw [← i3]; simp [List.getD_eq_getElem?_getD]
        have hwl : want.length = t := HI.out.2.2.1
        generalize (d.get t).2 = d2 at CR0 HI2
        generalize d.now t = x at CR0 HI2
        have CR : Hid _ := CR0
        clear CR0 g1 g2 g3 g4 g5
        go_wp2_with fail
        refine Calls.mono CR.out ?_
        rintro e w4 ⟨rfl, s4⟩
        have S4 : Hid (Sep w.heap.size w w4 [RowR 9 (.slice a6 n6 c6) (want.map .string), Disk b d2]) := s4.up1
        clear s4 CR
        go_wp2_with (at_builtin; refine app_str rfl _ _ rfl _ _ rfl (S4.out.alloc _) w4.heap.size 1 x rfl (by simp) (by simp; omega) ?_)
        intro a7 n7 c7 w5 s5
        have S5 : Hid (Sep w.heap.size w w5 [RowR 9 (.slice a7 n7 c7) ((want ++ [x]).map .string), Disk b d2]) := by show Sep _ _ _ _; rw [List.map_append]; exact s5
        clear s5 S4
        go_wp2
        go_roundg (8 - (t + 1))
        case measure => omega
        case rel => exact ⟨t + 1, d2, a7, n7, c7, want ++ [x], rfl, by go_num, by omega, Nat.le_refl _, HI2, S5.out⟩
      · have htz : ¬ (t : Int) < 8 := by omega
        obtain rfl : t = 8 := by omega
        have W2 : Hid (Up 8 d ∧ Wants d want ∧ d.pend.length ≤ 0) := ⟨HI.out.1, ⟨HI.out.2.2.1, HI.out.2.2.2⟩, by rw [HI.out.2.1]; exact Nat.le_refl _⟩
        clear HI
        go_wp2
        go_loopg [10] l.length (fun gk s10 wr => ∃ (t : Nat) (d : Dk) (want : List ByteArray), s10 = .int .i64 t ∧ t ≤ l.length ∧ l.length - t ≤ gk ∧ Hid (Up 8 d ∧ Wants d want ∧ d.pend.length ≤ t) ∧ Aside (Sep w.heap.size w wr [RowR 9 (.slice a6 n6 c6) (want.map .string), Disk b d]))
        case atStart => exact ⟨0, d, want, rfl, Nat.zero_le _, Nat.le_refl _, W2, S⟩
        case round =>
          clear S W2
          obtain ⟨t, d, want, rfl, ht, hgt, HI, S⟩ := hrel
          by_cases htl : t < l.length
          · have htz : (t : Int) < (l.length : Int) := by omega
            obtain ⟨r, o, rfl, hr, x0, x1, x2, x3, x4, x5, _, hb, _⟩ := HA.out.at S.out.bel (Nat.le_refl _) htl
            obtain ⟨A, hA⟩ : ∃ A, l.getD t a0 = A := ⟨_, rfl⟩
            rw [hA] at x0 x1 x2 hb
            have EA : Hid (l.getD t a0 = A) := hA
            clear hA
            clear x3 x4 x5
            have Dst : Hid _ := HI.out.1.put A.i (pageS A.b)
            have CW0 := fun u (hu : Sep w.heap.size w u [RowR 9 (.slice a6 n6 c6) (want.map .string), Disk b d]) => write_s hu.up1 A.i (pageS A.b) (pageS_le _) (by have := HI.out.2.2; omega)
            generalize (d.put A.i (pageS A.b)).1 = er at Dst CW0
            generalize (d.put A.i (pageS A.b)).2 = d2 at Dst CW0
            have CWr : Hid _ := CW0
            clear CW0
            go_wp2
            go_region_law (first | (go_simp; refine Calls.mono (page_o A.b hb _) ?_; rintro e w4 ⟨rfl, l4⟩; have S4 : Hid (Sep w.heap.size w w4 [RowR 9 (.slice a6 n6 c6) (want.map .string), Disk b d]) := S.out.drew.below l4; have y1 : w4.cell? ⟨r, o + t * 6 + 1, none⟩ = some (.int .i64 A.i) := (World.cell?_of_block (a := ⟨r, o + t * 6 + 1, none⟩) (l4.block r hr)).trans x1; have y0 : w4.cell? ⟨r, o + t * 6, none⟩ = some (.int .i64 A.k) := (World.cell?_of_block (a := ⟨r, o + t * 6, none⟩) (l4.block r hr)).trans x0; clear l4; dsimp only) | (go_simp; refine Calls.mono (CWr.out _ (Hid.out (by assumption))) ?_; rintro e w5 ⟨rfl, s5⟩; have S5 : Hid (Sep w.heap.size w w5 [RowR 9 (.slice a6 n6 c6) (want.map .string), Disk b d2]) := s5.up1; clear s5; dsimp only))
            all_goals
              obtain ⟨z0, z1, z2, hr5⟩ := HA.out.cells S5.out.bel (Nat.le_refl _) htl EA.out
              clear CWr S x0 x1 x2 hr
              rcases Dst.out with ⟨rfl, p1, p2, p3, p4, p5, p6, _, _⟩ | ⟨p1, p2, _⟩
              · obtain ⟨i, hi⟩ : ∃ i : Nat, A.i = i := ⟨A.i.toNat, by omega⟩
                rw [hi] at z1 p1 p2 p5
                have hi8 : i < 8 := by omega
                have hiz : (i : Int) < 8 := by omega
                have p5' : d2.pend = d.pend ++ [(i, pageS A.b)] := p5
                have I6 : Hid (Up 8 d2 ∧ Wants d2 (want.set i (pageS A.b)) ∧ d2.pend.length ≤ t + 1) := ⟨p4, HI.out.2.1.set hi8 p5' p6, by rw [p5']; have := HI.out.2.2; simp; omega⟩
                have hwl : want.length = 8 := HI.out.2.1.1
                obtain ⟨r6, c7, e6, hc6, hr6, v6, f6⟩ := S5.out.cell (j := i) (by simp [hwl]; exact hi8)
                have hw8 : (want.map Value.string).length = 8 := by simp [hwl]
                rw [hw8] at e6 hc6
                cases e6
                clear p3 p4 p5 p5' p6 Dst v6 f6 HI
                go_wp2
                go_region_law (go_simp; refine Calls.mono (page_o A.b hb _) ?_; rintro e w6 ⟨rfl, l6⟩; have S6 : Hid (Sep w.heap.size w w6 [RowR 9 (.slice (some ⟨r6, 0, none⟩) 8 c6) (want.map .string), Disk b d2]) := S5.out.drew.below l6; have y1 : w6.cell? ⟨r, o + t * 6 + 1, none⟩ = some (.int .i64 i) := (World.cell?_of_block (a := ⟨r, o + t * 6 + 1, none⟩) (l6.block r hr5)).trans z1; have y0 : w6.cell? ⟨r, o + t * 6, none⟩ = some (.int .i64 A.k) := (World.cell?_of_block (a := ⟨r, o + t * 6, none⟩) (l6.block r hr5)).trans z0; have y6 : w6.cell? ⟨r6, i, none⟩ = some (.string (sAt want i)) := Sep.str_at S6.out (by omega); have g6 : w6.frozen? ⟨r6, i, none⟩ = false := Sep.str_fz S6.out (by omega); clear l6; dsimp only)
                all_goals
                  have S8 : Hid (Sep w.heap.size w (w6.setCell ⟨r6, i, none⟩ (.string (pageS A.b))) [RowR 9 (.slice (some ⟨r6, 0, none⟩) 8 c6) ((want.set i (pageS A.b)).map .string), Disk b d2]) := Sep.str_set S6.out (by omega) hwl
                  obtain ⟨yk, _⟩ := HA.out.cells S8.out.bel (Nat.le_refl _) htl EA.out
                  have lt8 : b < (w6.setCell ⟨r6, i, none⟩ (.string (pageS A.b))).heap.size := S8.out.up1.lt
                  clear S6 y1 y0 y6 g6
                  generalize w6.setCell ⟨r6, i, none⟩ (.string (pageS A.b)) = w8 at *
                  by_cases hk4 : Int.tmod A.k 4 = 0
                  · have CS0 := sync_s S8.out.up1 (by have := I6.out.2.2; omega)
                    obtain ⟨q1, q2, q3, q4, _⟩ := I6.out.1.sync S8.out.up1.ok
                    rw [q1] at CS0
                    have I7 : Hid (Up 8 d2.sync.2 ∧ Wants d2.sync.2 (want.set i (pageS A.b)) ∧ d2.sync.2.pend.length ≤ t + 1) := ⟨q2, I6.out.2.1.same q3, by rw [q4]; exact Nat.zero_le _⟩
                    generalize d2.sync.2 = d7 at CS0 I7
                    have CS : Hid _ := CS0
                    clear CS0 q1 q2 q3 q4
                    go_wp2_with fail
                    refine Calls.mono CS.out ?_
                    rintro e w7 ⟨rfl, s7⟩
                    have S7 : Aside (Sep w.heap.size w w7 [RowR 9 (.slice (some ⟨r6, 0, none⟩) 8 c6) ((want.set i (pageS A.b)).map .string), Disk b d7]) := s7.up1
                    clear s7 CS
                    go_wp2
                    go_roundg (l.length - (t + 1))
                    case measure => omega
                    case rel => exact ⟨t + 1, d7, (want.set i (pageS A.b)), by go_num, by omega, Nat.le_refl _, I7, S7⟩
                  · have hk5 : (Int.tmod A.k 4 == 0) = false := beq_eq_false_iff_ne.2 hk4
                    go_wp2
                    go_roundg (l.length - (t + 1))
                    case measure => omega
                    case rel => exact ⟨t + 1, d2, (want.set i (pageS A.b)), by go_num, by omega, Nat.le_refl _, I6, S8.out⟩
              · subst p2
                have hne : (er == 0) = false := beq_eq_false_iff_ne.2 p1
                have I6 : Hid (Up 8 d2 ∧ Wants d2 want ∧ d2.pend.length ≤ t + 1) := ⟨HI.out.1, HI.out.2.1, by have := HI.out.2.2; omega⟩
                clear Dst p1
                by_cases hk4 : Int.tmod A.k 4 = 0
                · have CS0 := sync_s S5.out.up1 (by have := I6.out.2.2; omega)
                  obtain ⟨q1, q2, q3, q4, _⟩ := I6.out.1.sync S5.out.up1.ok
                  rw [q1] at CS0
                  have I7 : Hid (Up 8 d2.sync.2 ∧ Wants d2.sync.2 want ∧ d2.sync.2.pend.length ≤ t + 1) := ⟨q2, I6.out.2.1.same q3, by rw [q4]; exact Nat.zero_le _⟩
                  generalize d2.sync.2 = d7 at CS0 I7
                  have CS : Hid _ := CS0
                  clear CS0 q1 q2 q3 q4
                  go_wp2_with fail
                  refine Calls.mono CS.out ?_
                  rintro e w7 ⟨rfl, s7⟩
                  have S7 : Aside (Sep w.heap.size w w7 [RowR 9 (.slice a6 n6 c6) (want.map .string), Disk b d7]) := s7.up1
                  clear s7 CS
                  go_wp2
                  go_roundg (l.length - (t + 1))
                  case measure => omega
                  case rel => exact ⟨t + 1, d7, want, by go_num, by omega, Nat.le_refl _, I7, S7⟩
                · have hk5 : (Int.tmod A.k 4 == 0) = false := beq_eq_false_iff_ne.2 hk4
                  go_wp2
                  go_roundg (l.length - (t + 1))
                  case measure => omega
                  case rel => exact ⟨t + 1, d2, want, by go_num, by omega, Nat.le_refl _, I6, S5.out⟩
          · have htz : ¬ (t : Int) < (l.length : Int) := by omega
            have W3 : Hid (Up 8 d ∧ Wants d want) := ⟨HI.out.1, HI.out.2.1⟩
            clear HI
            go_wp2
            go_loopg [12] 8 (fun gk s12 wr => ∃ (u : Nat) (d : Dk), s12 = .int .i64 u ∧ u ≤ 8 ∧ 8 - u ≤ gk ∧ Hid (Up 8 d ∧ Wants d want) ∧ Aside (Sep w.heap.size w wr [RowR 9 (.slice a6 n6 c6) (want.map .string), Disk b d]))
            case atStart => exact ⟨0, d, rfl, by omega, by omega, W3, S⟩
            case round =>
              clear S W3
              obtain ⟨u, d, rfl, hu, hgu, HI, S⟩ := hrel
              by_cases hul : u < 8
              · have huz : (u : Int) < 8 := by omega
                have CR0 := read_s S.out.up1 (u : Int)
                obtain ⟨g1, g2, g3, g4, g5⟩ := HI.out.1.get u hul
                rw [g1, HI.out.2.2 u hul] at CR0
                have HI2 : Hid (Up 8 (d.get u).2 ∧ Wants (d.get u).2 want) := ⟨g2, HI.out.2.same g3⟩
                generalize (d.get u).2 = d2 at CR0 HI2
                have hwl : want.length = 8 := HI.out.2.1
                obtain ⟨r6, c7, e6, _, _, _, _⟩ := S.out.cell (j := u) (by simp [hwl]; exact hul)
                rw [show (want.map Value.string).length = 8 by simp [hwl]] at e6
                cases e6
                have CR : Hid _ := CR0
                clear CR0 g1 g2 g3 g4 g5
                go_wp2_with fail
                refine Calls.mono CR.out ?_
                rintro e w4 ⟨rfl, s4⟩
                have S4 : Aside (Sep w.heap.size w w4 [RowR 9 (.slice (some ⟨r6, 0, none⟩) 8 c6) (want.map .string), Disk b d2]) := s4.up1
                have y6 : w4.cell? ⟨r6, u, none⟩ = some (.string (sAt want u)) := Sep.str_at S4.out (by omega)
                generalize sAt want u = x at *
                clear s4 CR
                go_wp2
                go_roundg (8 - (u + 1))
                case measure => omega
                case rel => exact ⟨u + 1, d2, by go_num, by omega, Nat.le_refl _, HI2, S4⟩
              · have huz : ¬ (u : Int) < 8 := by omega
                go_wp2
                go_ret
                exact ⟨rfl, S.out.bel⟩

end Go.Proofs.Ytnmmikgmhoecpaa

/-
  The walk of the law DiskApart.
-/
import Derived.Test.YtnmmikgmhoecpaaUp2
namespace Go.Proofs.Ytnmmikgmhoecpaa
open Go.RowKit
set_option linter.unusedVariables false

theorem Up.put_len4 {n t : Nat} {d : Dk} (h : Up n d) (hp : d.pend.length ≤ t) (i : Int) (s : ByteArray) : Up n (d.put i s).2 ∧ (d.put i s).2.pend.length ≤ t + 1 := by
  rcases h.put i s with ⟨_, _, _, _, p4, p5, p6, _⟩ | ⟨_, p2, _⟩
  · exact ⟨p4, by rw [p5]; simp; omega⟩
  · rw [p2]; exact ⟨h, by omega⟩

set_option maxHeartbeats 16000000 in
set_option maxRecDepth 100000 in
theorem apart_walk (v : Value) (l : List A1) (lv : Value) (later : List A1) (w : World) (h : ActRow w v l) (h2 : ActRow w lv later) :
    Calls Try.prog 7 #[v, lv] w fun e w' => e = .returned (.bool true) ∧ Below w.heap.size w w' := by
  have CW : Hid _ := works_c w
  obtain ⟨ao, cap, rfl, hrow⟩ := h.row
  have HA : Hid (ActRow w (.slice ao l.length cap) l) := h
  obtain ⟨al, cl, rfl, hrl⟩ := h2.row
  have HA2 : Hid (ActRow w (.slice al later.length cl) later) := h2
  clear h h2 hrow hrl
  obtain ⟨lb1, hb1⟩ : ∃ x, x = lightB 4 l := ⟨_, rfl⟩
  obtain ⟨lb2, hb2⟩ : ∃ x, x = lightB 4 later := ⟨_, rfl⟩
  have HB1 : Hid (lb1 = lightB 4 l) := hb1
  have HB2 : Hid (lb2 = lightB 4 later) := hb2
  clear hb1 hb2
  cases lb1 with
  | false =>
    go_enter Try.func7, Try.ntmps7
    go_wp2_with fail
    refine Calls.mono CW.out ?_
    rintro e w1 ⟨rfl, b1⟩
    have CL0 := light_c 4 _ l w1 (HA.out.below b1 (Nat.le_refl _))
    rw [← HB1.out] at CL0
    have CL : Hid _ := CL0
    have CM0 := light_c 4 _ later w1 (HA2.out.below b1 (Nat.le_refl _))
    rw [← HB2.out] at CM0
    have CM : Hid _ := CM0
    have S1 : Hid (Sep w.heap.size w w1 []) := Sep.nil b1.size b1
    clear b1 CW CL0 CM0
    go_wp2_with fail
    refine Calls.mono CL.out ?_
    rintro e w2 ⟨rfl, rfl⟩
    go_wp2_with fail
    refine Calls.mono CM.out ?_
    rintro e w2 ⟨rfl, rfl⟩
    clear CL CM
    go_wp2
    go_ret
    exact ⟨rfl, S1.out.bel⟩
  | true =>
    cases lb2 with
    | false =>
      go_enter Try.func7, Try.ntmps7
      go_wp2_with fail
      refine Calls.mono CW.out ?_
      rintro e w1 ⟨rfl, b1⟩
      have CL0 := light_c 4 _ l w1 (HA.out.below b1 (Nat.le_refl _))
      rw [← HB1.out] at CL0
      have CL : Hid _ := CL0
      have CM0 := light_c 4 _ later w1 (HA2.out.below b1 (Nat.le_refl _))
      rw [← HB2.out] at CM0
      have CM : Hid _ := CM0
      have S1 : Hid (Sep w.heap.size w w1 []) := Sep.nil b1.size b1
      clear b1 CW CL0 CM0
      go_wp2_with fail
      refine Calls.mono CL.out ?_
      rintro e w2 ⟨rfl, rfl⟩
      go_wp2_with fail
      refine Calls.mono CM.out ?_
      rintro e w2 ⟨rfl, rfl⟩
      clear CL CM
      go_wp2
      go_ret
      exact ⟨rfl, S1.out.bel⟩
    | true =>
      have hll : l.length ≤ 60 := by have h := HB1.out.symm; unfold lightB at h; simp at h; omega
      have hl2 : later.length ≤ 60 := by have h := HB2.out.symm; unfold lightB at h; simp at h; omega
      go_enter Try.func7, Try.ntmps7
      go_wp2_with fail
      refine Calls.mono CW.out ?_
      rintro e w1 ⟨rfl, b1⟩
      have CL0 := light_c 4 _ l w1 (HA.out.below b1 (Nat.le_refl _))
      rw [← HB1.out] at CL0
      have CL : Hid _ := CL0
      have CM0 := light_c 4 _ later w1 (HA2.out.below b1 (Nat.le_refl _))
      rw [← HB2.out] at CM0
      have CM : Hid _ := CM0
      have S1 : Hid (Sep w.heap.size w w1 []) := Sep.nil b1.size b1
      clear b1 CW CL0 CM0
      go_wp2_with fail
      refine Calls.mono CL.out ?_
      rintro e w2 ⟨rfl, rfl⟩
      go_wp2_with fail
      refine Calls.mono CM.out ?_
      rintro e w2 ⟨rfl, rfl⟩
      clear CL CM
      have CN : Hid _ := new_s 4 S1.out
      go_wp2_with fail
      refine Calls.mono CN.out ?_
      rintro e w3 ⟨a, rfl, s3⟩
      have CN2 : Hid _ := new_s 4 s3
      clear s3 CN S1
      go_wp2_with fail
      refine Calls.mono CN2.out ?_
      rintro e w4 ⟨b, rfl, s4⟩
      have CN3 : Hid _ := new_s 4 s4
      clear s4 CN2
      go_wp2_with fail
      refine Calls.mono CN3.out ?_
      rintro e w5 ⟨c, rfl, s5⟩
      have S3 : Hid (Sep w.heap.size w w5 [Disk c (Dk.new 4), Disk b (Dk.new 4), Disk a (Dk.new 4)]) := s5
      clear s5 CN3
      go_wp2
      go_loopg [11] 60 (fun gk s11 wr => ∃ (t : Nat) (d f : Dk), s11 = .int .i64 t ∧ t ≤ 60 ∧ 60 - t ≤ gk ∧ Hid (Up 4 d ∧ d.pend.length ≤ t ∧ Up 4 f ∧ f.pend.length ≤ t) ∧ Aside (Sep w.heap.size w wr [Disk c d, Disk b f, Disk a d]))
      case atStart => exact ⟨0, _, _, rfl, Nat.zero_le _, Nat.le_refl _, ⟨Up.new 4 (by omega), Nat.le_refl _, Up.new 4 (by omega), Nat.le_refl _⟩, S3.out⟩
      case round =>
        clear S3
        obtain ⟨t, d, f, rfl, ht, hgt, HI, S⟩ := hrel
        by_cases htl : t < l.length
        · have htz : (t : Int) < (l.length : Int) := by omega
          obtain ⟨r, o, rfl, hr, x0, x1, x2, x3, x4, x5, _, hb, _⟩ := HA.out.at S.out.bel (Nat.le_refl _) htl
          obtain ⟨A, hA⟩ : ∃ A, l.getD t a0 = A := ⟨_, rfl⟩
          have EA : Hid (l.getD t a0 = A) := hA
          rw [hA] at x1 x2 hb
          clear hA x0 x3 x4 x5
          have I6 : Hid _ := Up.put_len4 HI.out.1 HI.out.2.1 A.i (pageS A.b)
          have CW0 := fun u (hu : Sep w.heap.size w u [Disk c d, Disk b f, Disk a d]) => write_s hu.up2 A.i (pageS A.b) (pageS_le _) (by have := HI.out.2.1; omega)
          have CW1 := fun u (hu : Sep w.heap.size w u [Disk c d, Disk b f, Disk a (d.put A.i (pageS A.b)).2]) => write_s hu A.i (pageS A.b) (pageS_le _) (by have := HI.out.2.1; omega)
          generalize (d.put A.i (pageS A.b)).1 = er at CW0 CW1
          generalize (d.put A.i (pageS A.b)).2 = d2 at CW0 CW1 I6
          have CWr : Hid _ := CW0
          have CWs : Hid _ := CW1
          clear CW0 CW1
          go_wp2
          go_region_law (first | (go_simp; refine Calls.mono (page_o A.b hb _) ?_; rintro e w4 ⟨rfl, lx⟩; have Sw4 : Hid (Sep w.heap.size w w4 [Disk c d, Disk b f, Disk a d]) := S.out.drew.below lx; have y1 : w4.cell? ⟨r, o + t * 6 + 1, none⟩ = some (.int .i64 A.i) := (World.cell?_of_block (a := ⟨r, o + t * 6 + 1, none⟩) (lx.block r hr)).trans x1; clear lx; dsimp only) | (go_simp; refine Calls.mono (CWr.out _ (Hid.out (by assumption))) ?_; rintro e w5 ⟨rfl, sx⟩; have Sw5 : Hid (Sep w.heap.size w w5 [Disk c d, Disk b f, Disk a d2]) := sx.dn2; clear sx; dsimp only))
          all_goals
            obtain ⟨z0, z1, z2, hr5⟩ := HA.out.cells Sw5.out.bel (Nat.le_refl _) htl EA.out
            clear CWr S x1 x2 hr z0
            go_wp2
            go_region_law (first | (go_simp; refine Calls.mono (page_o A.b hb _) ?_; rintro e w6 ⟨rfl, lx⟩; have Sw6 : Hid (Sep w.heap.size w w6 [Disk c d, Disk b f, Disk a d2]) := Sw5.out.drew.below lx; have y2 : w6.cell? ⟨r, o + t * 6 + 1, none⟩ = some (.int .i64 A.i) := (World.cell?_of_block (a := ⟨r, o + t * 6 + 1, none⟩) (lx.block r hr5)).trans z1; clear lx; dsimp only) | (go_simp; refine Calls.mono (CWs.out _ (Hid.out (by assumption))) ?_; rintro e w7 ⟨rfl, sx⟩; have Sw7 : Hid (Sep w.heap.size w w7 [Disk c d2, Disk b f, Disk a d2]) := sx; clear sx; dsimp only))
            all_goals
              clear CWs z1 z2 hr5
              by_cases htm : t < later.length
              · have htmz : (t : Int) < (later.length : Int) := by omega
                obtain ⟨r2, o2, rfl, hr2, u0, u1, u2, u3, u4, u5, _, hbb, _⟩ := HA2.out.at Sw7.out.bel (Nat.le_refl _) htm
                obtain ⟨E, hE⟩ : ∃ E, later.getD t a0 = E := ⟨_, rfl⟩
                have EE : Hid (later.getD t a0 = E) := hE
                rw [hE] at u1 u2 hbb
                clear hE u0 u3 u4 u5
                have I8 : Hid _ := Up.put_len4 HI.out.2.2.1 HI.out.2.2.2 E.i (pageS E.b)
                have CX0 := fun u (hu : Sep w.heap.size w u [Disk c d2, Disk b f, Disk a d2]) => write_s hu.up1 E.i (pageS E.b) (pageS_le _) (by have := HI.out.2.2.2; omega)
                generalize (f.put E.i (pageS E.b)).1 = er2 at CX0
                generalize (f.put E.i (pageS E.b)).2 = f2 at CX0 I8
                have CX : Hid _ := CX0
                clear CX0
                go_wp2
                go_region_law (first | (go_simp; refine Calls.mono (page_o E.b hbb _) ?_; rintro e w8 ⟨rfl, lx⟩; have Sw8 : Hid (Sep w.heap.size w w8 [Disk c d2, Disk b f, Disk a d2]) := Sw7.out.drew.below lx; have y3 : w8.cell? ⟨r2, o2 + t * 6 + 1, none⟩ = some (.int .i64 E.i) := (World.cell?_of_block (a := ⟨r2, o2 + t * 6 + 1, none⟩) (lx.block r2 hr2)).trans u1; clear lx; dsimp only) | (go_simp; refine Calls.mono (CX.out _ (Hid.out (by assumption))) ?_; rintro e w9 ⟨rfl, sx⟩; have Sw9 : Hid (Sep w.heap.size w w9 [Disk c d2, Disk b f2, Disk a d2]) := sx.up1; clear sx; dsimp only))
                all_goals
                  obtain ⟨v0, _⟩ := HA2.out.cells Sw9.out.bel (Nat.le_refl _) htm EE.out
                  clear CX u1 u2 hr2
                  have hlt9 : b < w9.heap.size := Sw9.out.up1.lt
                  by_cases hk3 : Int.tmod E.k 3 = 0
                  · have CS0 := sync_s Sw9.out.up1 (by have := I8.out.2; omega)
                    obtain ⟨q1, q2, q3, q4, _⟩ := I8.out.1.sync Sw9.out.up1.ok
                    have I9 : Hid (Up 4 d2 ∧ d2.pend.length ≤ t + 1 ∧ Up 4 f2.sync.2 ∧ f2.sync.2.pend.length ≤ t + 1) := ⟨I6.out.1, I6.out.2, q2, by rw [q4]; exact Nat.zero_le _⟩
                    generalize f2.sync.1 = er3 at CS0
                    generalize f2.sync.2 = f3 at CS0 I9
                    have CS : Hid _ := CS0
                    clear CS0 q1 q2 q3 q4
                    go_wp2_with fail
                    refine Calls.mono CS.out ?_
                    rintro e w10 ⟨rfl, s10⟩
                    have S10 : Aside (Sep w.heap.size w w10 [Disk c d2, Disk b f3, Disk a d2]) := s10.up1
                    clear s10 CS
                    go_wp2
                    go_roundg (60 - (t + 1))
                    case measure => omega
                    case rel => exact ⟨t + 1, d2, f3, by go_num, by omega, Nat.le_refl _, I9, S10⟩
                  · have hk4 : (Int.tmod E.k 3 == 0) = false := beq_eq_false_iff_ne.2 hk3
                    have I9 : Hid (Up 4 d2 ∧ d2.pend.length ≤ t + 1 ∧ Up 4 f2 ∧ f2.pend.length ≤ t + 1) := ⟨I6.out.1, I6.out.2, I8.out.1, I8.out.2⟩
                    go_wp2
                    go_roundg (60 - (t + 1))
                    case measure => omega
                    case rel => exact ⟨t + 1, d2, f2, by go_num, by omega, Nat.le_refl _, I9, Sw9.out⟩
              · have htmz : ¬ (t : Int) < (later.length : Int) := by omega
                have I9 : Hid (Up 4 d2 ∧ d2.pend.length ≤ t + 1 ∧ Up 4 f ∧ f.pend.length ≤ t + 1) := ⟨I6.out.1, I6.out.2, HI.out.2.2.1, by have := HI.out.2.2.2; omega⟩
                go_wp2
                go_roundg (60 - (t + 1))
                case measure => omega
                case rel => exact ⟨t + 1, d2, f, by go_num, by omega, Nat.le_refl _, I9, Sw7.out⟩
        · have htz : ¬ (t : Int) < (l.length : Int) := by omega
          have J0 : Hid (Up 4 d ∧ d.pend.length ≤ t + 1) := ⟨HI.out.1, by have := HI.out.2.1; omega⟩
          by_cases htm : t < later.length
          · have htmz : (t : Int) < (later.length : Int) := by omega
            obtain ⟨r2, o2, rfl, hr2, u0, u1, u2, u3, u4, u5, _, hbb, _⟩ := HA2.out.at S.out.bel (Nat.le_refl _) htm
            obtain ⟨E, hE⟩ : ∃ E, later.getD t a0 = E := ⟨_, rfl⟩
            have EE : Hid (later.getD t a0 = E) := hE
            rw [hE] at u1 u2 hbb
            clear hE u0 u3 u4 u5
            have I8 : Hid _ := Up.put_len4 HI.out.2.2.1 HI.out.2.2.2 E.i (pageS E.b)
            have CX0 := fun u (hu : Sep w.heap.size w u [Disk c d, Disk b f, Disk a d]) => write_s hu.up1 E.i (pageS E.b) (pageS_le _) (by have := HI.out.2.2.2; omega)
            generalize (f.put E.i (pageS E.b)).1 = er2 at CX0
            generalize (f.put E.i (pageS E.b)).2 = f2 at CX0 I8
            have CX : Hid _ := CX0
            clear CX0
            go_wp2
            go_region_law (first | (go_simp; refine Calls.mono (page_o E.b hbb _) ?_; rintro e w8 ⟨rfl, lx⟩; have Sw8 : Hid (Sep w.heap.size w w8 [Disk c d, Disk b f, Disk a d]) := S.out.drew.below lx; have y3 : w8.cell? ⟨r2, o2 + t * 6 + 1, none⟩ = some (.int .i64 E.i) := (World.cell?_of_block (a := ⟨r2, o2 + t * 6 + 1, none⟩) (lx.block r2 hr2)).trans u1; clear lx; dsimp only) | (go_simp; refine Calls.mono (CX.out _ (Hid.out (by assumption))) ?_; rintro e w9 ⟨rfl, sx⟩; have Sw9 : Hid (Sep w.heap.size w w9 [Disk c d, Disk b f2, Disk a d]) := sx.up1; clear sx; dsimp only))
            all_goals
              obtain ⟨v0, _⟩ := HA2.out.cells Sw9.out.bel (Nat.le_refl _) htm EE.out
              clear CX u1 u2 hr2
              have hlt9 : b < w9.heap.size := Sw9.out.up1.lt
              by_cases hk3 : Int.tmod E.k 3 = 0
              · have CS0 := sync_s Sw9.out.up1 (by have := I8.out.2; omega)
                obtain ⟨q1, q2, q3, q4, _⟩ := I8.out.1.sync Sw9.out.up1.ok
                have I9 : Hid (Up 4 d ∧ d.pend.length ≤ t + 1 ∧ Up 4 f2.sync.2 ∧ f2.sync.2.pend.length ≤ t + 1) := ⟨J0.out.1, J0.out.2, q2, by rw [q4]; exact Nat.zero_le _⟩
                generalize f2.sync.1 = er3 at CS0
                generalize f2.sync.2 = f3 at CS0 I9
                have CS : Hid _ := CS0
                clear CS0 q1 q2 q3 q4
                go_wp2_with fail
                refine Calls.mono CS.out ?_
                rintro e w10 ⟨rfl, s10⟩
                have S10 : Aside (Sep w.heap.size w w10 [Disk c d, Disk b f3, Disk a d]) := s10.up1
                clear s10 CS
                go_wp2
                go_roundg (60 - (t + 1))
                case measure => omega
                case rel => exact ⟨t + 1, d, f3, by go_num, by omega, Nat.le_refl _, I9, S10⟩
              · have hk4 : (Int.tmod E.k 3 == 0) = false := beq_eq_false_iff_ne.2 hk3
                have I9 : Hid (Up 4 d ∧ d.pend.length ≤ t + 1 ∧ Up 4 f2 ∧ f2.pend.length ≤ t + 1) := ⟨J0.out.1, J0.out.2, I8.out.1, I8.out.2⟩
                go_wp2
                go_roundg (60 - (t + 1))
                case measure => omega
                case rel => exact ⟨t + 1, d, f2, by go_num, by omega, Nat.le_refl _, I9, Sw9.out⟩
          · have htmz : ¬ (t : Int) < (later.length : Int) := by omega
            have K0 : Hid (Up 4 d) := HI.out.1
            clear HI J0
            go_wp2
            go_loopg [14] 4 (fun gk s14 wr => ∃ (u : Nat) (d : Dk), s14 = .int .i64 u ∧ u ≤ 4 ∧ 4 - u ≤ gk ∧ Hid (Up 4 d) ∧ Aside (Sep w.heap.size w wr [Disk c d, Disk b f, Disk a d]))
            case atStart => exact ⟨0, d, rfl, by omega, by omega, K0, S⟩
            case round =>
              clear S K0
              obtain ⟨u, d, rfl, hu, hgu, HI, S⟩ := hrel
              by_cases hul : u < 4
              · have huz : (u : Int) < 4 := by omega
                obtain ⟨g1, g2, _⟩ := HI.out.get u hul
                have CR0 := read_s S.out.up2 (u : Int)
                have CR1 := fun u2 (hu : Sep w.heap.size w u2 [Disk c d, Disk b f, Disk a (d.get u).2]) => read_s hu (u : Int)
                rw [g1] at CR0 CR1
                have U2 : Hid (Up 4 (d.get u).2) := g2
                generalize (d.get u).2 = d2 at CR0 CR1 U2
                generalize d.now u = x at CR0 CR1
                have CR : Hid _ := CR0
                have CRb : Hid _ := CR1
                clear CR0 CR1 g1 g2
                go_wp2_with fail
                refine Calls.mono CR.out ?_
                rintro e w5 ⟨rfl, s5⟩
                have CR2 : Hid _ := CRb.out w5 s5.dn2
                clear s5 CR CRb
                go_wp2_with fail
                refine Calls.mono CR2.out ?_
                rintro e w6 ⟨rfl, s6⟩
                have S6 : Aside (Sep w.heap.size w w6 [Disk c d2, Disk b f, Disk a d2]) := s6
                clear s6 CR2
                go_wp2
                go_roundg (4 - (u + 1))
                case measure => omega
                case rel => exact ⟨u + 1, d2, by go_num, by omega, Nat.le_refl _, U2, S6⟩
              · have huz : ¬ (u : Int) < 4 := by omega
                have C1 : Hid _ := pending_s S.out.up2
                have C2 : Hid _ := pending_s S.out
                have C3 : Hid _ := writes_s S.out.up2
                have C4 : Hid _ := writes_s S.out
                go_wp2_with fail
                refine Calls.mono C1.out ?_
                rintro e w5 ⟨rfl, rfl⟩
                go_wp2_with fail
                refine Calls.mono C2.out ?_
                rintro e w5 ⟨rfl, rfl⟩
                go_wp2_with fail
                refine Calls.mono C3.out ?_
                rintro e w5 ⟨rfl, rfl⟩
                go_wp2_with fail
                refine Calls.mono C4.out ?_
                rintro e w5 ⟨rfl, rfl⟩
                go_wp2
                go_ret
                exact ⟨rfl, S.out.bel⟩

end Go.Proofs.Ytnmmikgmhoecpaa

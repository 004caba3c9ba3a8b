/-
  The walk of ChainEnds.
-/
import Derived.Test.YtnjnggjbeklmpaaDoorChLaw
namespace Go.Proofs.YtnjnggjbeklmpaaDoor
open Go.Shelf Go.RowKit Go.Lib Go.Sort
set_option linter.unusedVariables false

theorem end_body (i : Nat) (hi : i < 100) (z : Int) (h0 : 0 ≤ z) (h1 : z ≤ 99) : bodyB z [((i : Int), (i : Int))] = true := by
  refine bodyB_iff.2 ⟨nextB_iff.2 ⟨h0, by omega⟩, by simp, fun r hr => ?_⟩
  rw [List.mem_singleton.1 hr]
  exact endB_iff.2 ⟨by simp only; omega, Int.le_refl _, by simp only; omega⟩

set_option maxHeartbeats 4000000 in
set_option maxRecDepth 100000 in
theorem chainEnds (nv : Value) (next : List Int) (head : Int) (w : World) (T : Tab w) (hN : IntRow w nv next) (hh : -9223372036854775808 ≤ head ∧ head ≤ 9223372036854775807) :
    Calls Tryd.prog 4 #[nv, .int .i64 head] w fun e w' => e = .returned (.bool true) ∧ Below w.heap.size w w' := by
  obtain ⟨ao, ca, rfl, _⟩ := id hN
  have HN : Aside (IntRow w (.slice ao next.length ca) next) := hN
  have TT : Hid (Tabs w.heap.size w) := tabs_of T
  have CW : Hid _ := works_any w
  clear hN T hh
  by_cases h30 : (30 : Int) < next.length
  · go_enter Tryd.func4, Tryd.ntmps4
    go_wp2_with fail
    refine Calls.mono CW.out ?_
    rintro e w1 ⟨rfl, b1⟩
    have B1 : Hid (Below w.heap.size w w1) := b1
    clear b1 CW
    go_wp2
    go_ret
    exact ⟨rfl, B1.out⟩
  · have hn30 : next.length ≤ 30 := by omega
    have e1 : wrap64 (2 + (next.length : Int)) = 2 + (next.length : Int) := by unfold wrap64; omega
    go_enter Tryd.func4, Tryd.ntmps4
    go_wp2_with fail
    refine Calls.mono CW.out ?_
    rintro e w1 ⟨rfl, b1⟩
    have S1 : Hid (Sep w.heap.size w w1 []) := Sep.nil b1.size b1
    clear b1 CW
    have CD : Hid _ := new_s (2 + (next.length : Int)) S1.out
    go_wp2_with fail
    refine Calls.mono CD.out ?_
    rintro e w2 ⟨b, rfl, s2⟩
    have U2 : Hid (Up (2 + next.length) (Dk.new (2 + (next.length : Int)))) := by
      have := Up.new (2 + next.length) (by omega)
      rw [show ((2 + next.length : Nat) : Int) = 2 + (next.length : Int) by omega] at this
      exact this
    have K2 : Hid ((Dk.new (2 + (next.length : Int))).reads = 0 ∧ (Dk.new (2 + (next.length : Int))).writes = 0 ∧ (Dk.new (2 + (next.length : Int))).pend.length = 0) := ⟨rfl, rfl, rfl⟩
    have CF : Hid _ := new_f s2
    generalize Dk.new (2 + (next.length : Int)) = d0 at *
    clear CD S1 s2 e1
    go_wp2_with fail
    refine Calls.mono CF.out ?_
    rintro e w3 ⟨f, rfl, s3⟩
    have S3 : Hid (Sep w.heap.size w w3 [File f b d0]) := s3
    clear CF s3
    go_wp2
    go_loopg [8] next.length (fun kx s8 wr => ∃ (i : Nat) (d : Dk), s8 = .int .i64 i ∧ i ≤ next.length ∧ next.length - i ≤ kx ∧ Hid (Sep w.heap.size w wr [File f b d]) ∧ Hid (Up (2 + next.length) d) ∧ Hid (d.reads = 0 ∧ d.writes = i ∧ d.pend.length = i))
    case atStart => exact ⟨0, d0, rfl, Nat.zero_le _, Nat.le_refl _, S3, U2, K2⟩
    case round =>
      obtain ⟨i, d, rfl, hi, hki, SR, UR, KR⟩ := hrel
      clear S3 U2 K2
      by_cases hil : i < next.length
      · have hilz : (i : Int) < (next.length : Int) := by omega
        obtain ⟨r, o, rfl, hr, hc⟩ := (HN.out.below SR.out.bel (Nat.le_refl _)).at hil
        generalize next.getD i 0 = x at *
        obtain ⟨z, hz⟩ : ∃ z : Int, min (max x 0) 99 = z := ⟨_, rfl⟩
        have hr1 : Hid (Row encP 2 (wr.alloc (.cells #[.int .i64 i, .int .i64 i] 45)) (.slice (some ⟨wr.heap.size, 0, none⟩) 1 1) [((i : Int), (i : Int))]) := row_block (Cl.new wr #[.int .i64 i, .int .i64 i] 45) (flat_one ((i : Int), (i : Int))) rfl
        have BB := end_body i (by omega) z (by omega) (by omega)
        have CB : Hid _ := body_any z _ _ _ hr1.out (by simp)
        rw [show bodyT z [((i : Int), (i : Int))] = (bodyS z [((i : Int), (i : Int))]).data.toList from rfl, show bodyE z [((i : Int), (i : Int))] = 0 from if_pos BB] at CB
        have S1 : Hid (Sep w.heap.size w (wr.alloc (.cells #[.int .i64 i, .int .i64 i] 45)) [File f b d]) := SR.out.alloc _
        have hbz := bodyS_size z [((i : Int), (i : Int))]
        rw [show (⟨(bodyS z [((i : Int), (i : Int))]).data.toList.toArray⟩ : ByteArray) = bodyS z [((i : Int), (i : Int))] from rfl] at CB
        obtain ⟨k1, k2, k3⟩ := KR.out
        obtain ⟨g1, g2, g3, g4, g5, g6⟩ := wr_good UR.out (i := 2 + (i : Int)) (by omega) (by omega) 3 (s := bodyS z [((i : Int), (i : Int))]) (by omega) (by omega) (by omega)
        have CWr : Hid (∀ u, Sep w.heap.size w u [File f b d] → _) := fun u hu => write_f TT.out hu (2 + (i : Int)) 3 (bodyS z [((i : Int), (i : Int))]) (by unfold maxLen; omega) (by omega)
        rw [g1, show ((3 : UInt8).toNat : Int) = 3 from rfl] at CWr
        have U3 : Hid (Up (2 + next.length) (d.wr (2 + (i : Int)) 3 (bodyS z [((i : Int), (i : Int))])).2) := g2
        have K3 : Hid ((d.wr (2 + (i : Int)) 3 (bodyS z [((i : Int), (i : Int))])).2.reads = 0 ∧ (d.wr (2 + (i : Int)) 3 (bodyS z [((i : Int), (i : Int))])).2.writes = ((i + 1 : Nat) : Int) ∧ (d.wr (2 + (i : Int)) 3 (bodyS z [((i : Int), (i : Int))])).2.pend.length = i + 1) := ⟨by rw [g5, k1], by rw [g6, k2]; omega, by rw [g3, List.length_append, k3]; rfl⟩
        have e2 : wrap64 (2 + (i : Int)) = 2 + (i : Int) := by unfold wrap64; omega
        generalize (d.wr (2 + (i : Int)) 3 (bodyS z [((i : Int), (i : Int))])).2 = d2 at *
        generalize bodyS z [((i : Int), (i : Int))] = bs at *
        clear g1 g2 g3 g4 g5 g6 BB hbz hr1 k1 k2 k3 KR UR SR
        go_wp2_with fail
        generalize wr.alloc (.cells #[.int .i64 i, .int .i64 i] 45) = w4 at *
        refine Calls.mono CB.out ?_
        rintro e w5 ⟨rfl, b5⟩
        have C6 : Hid _ := CWr.out w5 (S1.out.below b5)
        clear b5 CB S1 CWr hc
        go_wp2_with fail
        refine Calls.mono C6.out ?_
        rintro e w6 ⟨rfl, s6⟩
        have S6 : Hid (Sep w.heap.size w w6 [File f b d2]) := s6
        clear C6 s6
        go_wp2
        go_roundg (next.length - (i + 1))
        case measure => omega
        case rel => exact ⟨i + 1, d2, by go_num, by omega, Nat.le_refl _, S6, U3, K3⟩
      · have hilz : ¬ (i : Int) < (next.length : Int) := by omega
        obtain rfl : i = next.length := by omega
        obtain ⟨k1, k2, k3⟩ := KR.out
        have CR : Hid _ := reads_f SR.out
        rw [k1] at CR
        have CC : Hid _ := cread_f normOk TT.out SR.out head (by rw [UR.out.sl]; omega)
        obtain ⟨k, j1, j2, j3⟩ := rdC_up (by omega) (d.sure.length + 1) d [] [] head UR.out (PgIds.nil _) (by omega) (by rw [k1]; simp; omega)
        rw [k1, Int.zero_add] at j1
        rw [show (d.cr head).1.2.2 = (rdC (d.sure.length + 1) d [] [] head).1.2.2 from rfl, show (d.cr head).1.2.1 = (rdC (d.sure.length + 1) d [] [] head).1.2.1 from rfl, show (d.cr head).2 = (rdC (d.sure.length + 1) d [] [] head).2 from rfl] at CC
        generalize (d.cr head).1.1 = rs at *
        generalize rdC (d.sure.length + 1) d [] [] head = R at *
        obtain ⟨⟨al, ids, er⟩, dF⟩ := R
        dsimp only at CC j1 j2 j3
        simp only [List.length_nil, Nat.zero_add] at j2
        have hkz : (k : Int) ≤ (next.length : Int) := by omega
        have e3 : wrap64 ((k : Int) - 0) = (k : Int) := by unfold wrap64; omega
        have e4 : wrap64 (k : Int) = (k : Int) := by unfold wrap64; omega
        have J1 : Hid (dF.reads = (k : Int)) := j1
        clear KR k1 k2 k3 j1 UR
        go_wp2_with fail
        refine Calls.mono CR.out ?_
        rintro e w4 ⟨rfl, rfl⟩
        clear CR
        go_wp2_with fail
        refine Calls.mono CC.out ?_
        rintro e w5 ⟨a1, n1, c1, a2, n2, c2, rfl, s5⟩
        obtain ⟨_, _, e5⟩ := s5.up1.shape
        cases e5
        rw [List.length_map] at *
        have CR2 : Hid _ := reads_f s5.up2
        rw [J1.out] at CR2
        have B5 : Hid (Below w.heap.size w w5) := s5.bel
        clear CC s5 SR J1
        rcases j3 with ⟨rfl, rfl, _⟩ | ⟨rfl, q1, q2⟩
        · simp only [List.length_nil] at *
          go_wp2_with fail
          refine Calls.mono CR2.out ?_
          rintro e w6 ⟨rfl, rfl⟩
          clear CR2
          go_wp2
          go_ret
          exact ⟨rfl, B5.out⟩
        · have q3 : (ids.length : Int) ≤ (next.length : Int) := by omega
          by_cases hh0 : head = 0
          · subst hh0
            obtain rfl : ids = [] := q2.2 (by simp)
            simp only [List.length_nil] at *
            clear q1 q2
            go_wp2_with fail
            refine Calls.mono CR2.out ?_
            rintro e w6 ⟨rfl, rfl⟩
            clear CR2
            go_wp2
            go_ret
            exact ⟨rfl, B5.out⟩
          · have hi0 : ((ids.length : Int) == 0) = false := by
              rw [beq_eq_false_iff_ne]
              intro e
              exact hh0 (q2.1 (List.length_eq_zero_iff.1 (by omega))).1
            have hb0 : (head == 0) = false := beq_eq_false_iff_ne.2 hh0
            generalize ids.length = m at *
            clear q1 q2 hh0
            go_wp2_with fail
            refine Calls.mono CR2.out ?_
            rintro e w6 ⟨rfl, rfl⟩
            clear CR2
            go_wp2
            go_ret
            exact ⟨rfl, B5.out⟩

end Go.Proofs.YtnjnggjbeklmpaaDoor

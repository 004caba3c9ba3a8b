/-
  The walk of ChainKeeps.
-/
import Derived.Test.YtnjnggjbeklmpaaDoorChLaw
import Derived.BigQuiet
namespace Go.Proofs.YtnjnggjbeklmpaaDoor
open Go.Shelf Go.RowKit Go.Lib Go.Sort
set_option linter.unusedVariables false

/-- Are all of these pages of forty sectors? Is one twice? -/
def rightB (l : List Int) : Bool := l.all fun x => decide (2 ≤ x) && decide (x < 40)
def twB (l : List Int) : Bool := !decide l.Nodup
theorem rightB_snoc (l : List Int) (x : Int) : rightB (l ++ [x]) = (rightB l && (decide (2 ≤ x) && decide (x < 40))) := by simp [rightB]
theorem twB_snoc (l : List Int) (x : Int) : twB (l ++ [x]) = (twB l || decide (x ∈ l)) := by
  unfold twB
  by_cases h1 : l.Nodup
  · by_cases h2 : x ∈ l
    · rw [decide_eq_false (fun h => (nodup_snoc.1 h).2 h2), decide_eq_true h1, decide_eq_true h2]; rfl
    · rw [decide_eq_true (nodup_snoc.2 ⟨h1, h2⟩), decide_eq_true h1, decide_eq_false h2]; rfl
  · rw [decide_eq_false (fun h => h1 (nodup_snoc.1 h).1), decide_eq_false h1]; rfl
theorem take_snocD {ids : List Int} {i : Nat} (h : i < ids.length) : ids.take (i + 1) = ids.take i ++ [ids.getD i 0] := by rw [List.take_succ_eq_append_getElem h]; simp [List.getD_eq_getElem?_getD, h]
theorem rightB_iff {l : List Int} : rightB l = true ↔ ∀ x ∈ l, 2 ≤ x ∧ x < ((40 : Nat) : Int) := by
  unfold rightB
  rw [List.all_eq_true]
  constructor
  · intro h x hx
    have := h x hx
    simp at this
    exact ⟨this.1, by omega⟩
  · intro h x hx
    have := h x hx
    simp
    omega
theorem keeps_no (l : List Pr) (ids : List Int) (h : twB ids = true ∨ ids.length < pagesN (nmL l).length) : (Dk.new 40).cw l ids = ((0, 1), Dk.new 40) := by
  unfold Dk.cw
  rw [if_neg]
  intro hok
  have h1 := of_decide_eq_true (Bool.and_eq_true _ _ ▸ hok).1
  have h2 := of_decide_eq_true (Bool.and_eq_true _ _ ▸ hok).2
  rcases h with h | h
  · unfold twB at h; rw [decide_eq_true h2] at h; cases h
  · omega
theorem keeps_ok {l : List Pr} {ids : List Int} (h1 : twB ids = false) (h2 : ¬ ids.length < pagesN (nmL l).length) : wrOk l ids = true ∧ ids.Nodup := by
  have hn : ids.Nodup := by
    unfold twB at h1
    by_cases h : ids.Nodup
    · exact h
    · rw [decide_eq_false h] at h1; cases h1
  exact ⟨by unfold wrOk; rw [decide_eq_true (by omega), decide_eq_true hn]; rfl, hn⟩
theorem keeps_bad {l : List Pr} {ids : List Int} (h1 : twB ids = false) (h2 : ¬ ids.length < pagesN (nmL l).length) (hr : rightB ids = false) (hl : ids.length ≤ 30) : ((Dk.new 40).cw l ids).1 = (0, 40) := by
  obtain ⟨ok, hn⟩ := keeps_ok h1 h2
  have hb := wrs_bad (n := 40) (by decide) ids (Dk.new 40) (nmL l) (Up.new 40 (by decide)) (Int.le_refl _) (by show (0 : Int) + ids.length ≤ 1000000; omega) (by
    refine Classical.byContradiction fun hc => ?_
    have : rightB ids = true := rightB_iff.2 fun x hx => Classical.byContradiction fun hx2 => hc ⟨x, hx, hx2⟩
    rw [hr] at this
    cases this)
  unfold Dk.cw
  rw [if_pos ok, hb, if_neg (show (40 : Int) ≠ 0 by decide)]
theorem keeps_good {l : List Pr} {ids : List Int} (h1 : twB ids = false) (h2 : ¬ ids.length < pagesN (nmL l).length) (hr : rightB ids = true) (hl : ids.length ≤ 30) :
    ∃ d1, (Dk.new 40).cw l ids = ((ids.headD 0, 0), d1) ∧ Up 40 d1 ∧ Chained d1 ids (nmL l) ∧ d1.writes = ids.length ∧ d1.pend.length = ids.length ∧ (nmL l).length ≤ 29 * ids.length ∧ ids.Nodup := by
  obtain ⟨ok, hn⟩ := keeps_ok h1 h2
  obtain ⟨w1, w2, w3, w4, w5, w6, w7⟩ := wrs_ok (n := 40) (by decide) ids (Dk.new 40) (nmL l) (Up.new 40 (by decide)) hn (rightB_iff.1 hr) (Int.le_refl _) (by show (0 : Int) + ids.length ≤ 1000000; omega)
  refine ⟨_, by unfold Dk.cw; rw [if_pos ok, if_pos w1], w2, w3, by rw [w5]; show (0 : Int) + ids.length = ids.length; omega, by rw [w7]; show 0 + ids.length = ids.length; omega, pages_le (by omega), hn⟩
/-- Another page is written, or nothing is. -/
theorem other_wr {d : Dk} {ids : List Int} {s : List Pr} (hu : Up 40 d) (hc : Chained d ids s) {o : Int} (ho : o ∉ ids) (t : ByteArray) : Up 40 (d.wr o 3 t).2 ∧ Chained (d.wr o 3 t).2 ids s ∧ (d.wr o 3 t).2.pend.length ≤ d.pend.length + 1 := by
  refine ⟨?_, ?_, (d.wr_sure o 3 t).2⟩
  · rcases hu.wr o 3 t with ⟨_, _, _, _, u, _, _⟩ | ⟨_, e, _⟩
    · exact u
    · rw [e]; exact hu
  · rcases hu.wr o 3 t with ⟨_, h2, _, _, u, hp, hs⟩ | ⟨_, e, _⟩
    · refine hc.congr (by rw [hs]) fun id hid => ?_
      rw [now_snoc hp hs, if_neg]
      intro e
      have hge : ∀ (ids : List Int) (s : List Pr), Chained d ids s → ∀ id ∈ ids, 2 ≤ id := fun ids => by
        induction ids with
        | nil => intro _ _ _ h; cases h
        | cons a r ih =>
          intro s hc id hid
          rcases List.mem_cons.1 hid with rfl | hid
          · exact hc.1.1
          · exact ih _ hc.2.2 id hid
      have := hge ids s hc id hid
      have : o = id := by omega
      exact ho (this ▸ hid)
    · rw [e]; exact hc

set_option maxHeartbeats 4000000 in
set_option maxRecDepth 100000 in
theorem chainKeeps (lv : Value) (l : List Pr) (iv : Value) (ids : List Int) (ov : Value) (oth : List Int) (w : World) (T : Tab w) (hL : Row encP 2 w lv l) (hI : IntRow w iv ids) (hO : IntRow w ov oth) :
    Calls Tryd.prog 3 #[lv, iv, ov] w fun e w' => e = .returned (.bool true) ∧ Below w.heap.size w w' := by
  obtain ⟨la, lc, rfl, _⟩ := id hL
  obtain ⟨ia, ic, rfl, _⟩ := id hI
  obtain ⟨oa, oc, rfl, _⟩ := id hO
  have HL : Aside (Row encP 2 w (.slice la l.length lc) l) := hL
  have HI : Aside (IntRow w (.slice ia ids.length ic) ids) := hI
  have HO : Aside (IntRow w (.slice oa oth.length oc) oth) := hO
  have TT : Hid (Tabs w.heap.size w) := tabs_of T
  have CW : Hid _ := works_any w
  clear hL hI hO T
  rcases Classical.em ((100 : Int) < l.length) with h0 | h0
  · go_enter Tryd.func3, Tryd.ntmps3
    go_wp2_with fail
    refine Calls.mono CW.out ?_
    rintro e w1 ⟨rfl, b1⟩
    have B1 : Hid (Below w.heap.size w w1) := b1
    clear b1 CW
    go_wp2
    go_ret
    exact ⟨rfl, B1.out⟩
  rcases Classical.em ((30 : Int) < ids.length) with h1 | h1
  · go_enter Tryd.func3, Tryd.ntmps3
    go_wp2_with fail
    refine Calls.mono CW.out ?_
    rintro e w1 ⟨rfl, b1⟩
    have B1 : Hid (Below w.heap.size w w1) := b1
    clear b1 CW
    go_wp2
    go_ret
    exact ⟨rfl, B1.out⟩
  rcases Classical.em ((30 : Int) < oth.length) with h2 | h2
  · go_enter Tryd.func3, Tryd.ntmps3
    go_wp2_with fail
    refine Calls.mono CW.out ?_
    rintro e w1 ⟨rfl, b1⟩
    have B1 : Hid (Below w.heap.size w w1) := b1
    clear b1 CW
    go_wp2
    go_ret
    exact ⟨rfl, B1.out⟩
  go_enter Tryd.func3, Tryd.ntmps3
  go_wp2_with fail
  refine Calls.mono CW.out ?_
  rintro e' w1 ⟨rfl, b1⟩
  have S1 : Hid (Sep w.heap.size w w1 []) := Sep.nil b1.size b1
  clear b1 CW
  have CD : Hid _ := new_s 40 S1.out
  go_wp2_with fail
  refine Calls.mono CD.out ?_
  rintro e' w2 ⟨b, rfl, s2⟩
  have CF : Hid _ := new_f s2
  clear CD S1 s2
  go_wp2_with fail
  refine Calls.mono CF.out ?_
  rintro e' w3 ⟨f, rfl, s3⟩
  have S3 : Hid (Sep w.heap.size w w3 [File f b (Dk.new 40)]) := s3
  clear CF s3
  go_wp2
  go_loopg [10, 11, 12] ids.length (fun kx s10 s11 s12 wr => ∃ i : Nat, s10 = .bool (twB (ids.take i)) ∧ s11 = .bool (rightB (ids.take i)) ∧ s12 = .int .i64 i ∧ i ≤ ids.length ∧ ids.length - i ≤ kx ∧ Hid (Sep w.heap.size w wr [File f b (Dk.new 40)]))
  case atStart => exact ⟨0, rfl, rfl, rfl, Nat.zero_le _, Nat.le_refl _, S3⟩
  case round =>
    obtain ⟨i, rfl, rfl, rfl, hi, hki, SR⟩ := hrel
    clear S3
    by_cases hil : i < ids.length
    · have hilz : (i : Int) < (ids.length : Int) := by omega
      obtain ⟨r, o, rfl, hr, hc⟩ := (HI.out.below SR.out.bel (Nat.le_refl _)).at hil
      have TK : Hid (rightB (ids.take (i + 1)) = (rightB (ids.take i) && (decide (2 ≤ ids.getD i 0) && decide (ids.getD i 0 < 40))) ∧ twB (ids.take (i + 1)) = (twB (ids.take i) || decide (ids.getD i 0 ∈ ids.take i))) := by
        show _ ∧ _
        rw [take_snocD hil, rightB_snoc, twB_snoc]
        exact ⟨rfl, rfl⟩
      obtain ⟨x, hx⟩ : ∃ x, ids.getD i 0 = x := ⟨_, rfl⟩
      rw [hx] at hc TK
      have HX : Hid (ids.getD i 0 = x) := hx
      obtain ⟨R, hR⟩ : ∃ R, rightB (ids.take i) = R := ⟨_, rfl⟩
      obtain ⟨R', hR'⟩ : ∃ R', rightB (ids.take (i + 1)) = R' := ⟨_, rfl⟩
      obtain ⟨t0, ht0⟩ : ∃ t, twB (ids.take i) = t := ⟨_, rfl⟩
      have T2 : Hid (twB (ids.take (i + 1)) = (t0 || decide (x ∈ ids.take i))) := by rw [← ht0]; exact TK.out.2
      have R2 : Hid (R' = (R && (decide (2 ≤ x) && decide (x < 40)))) := by rw [← hR, ← hR']; exact TK.out.1
      have HR' : Hid (rightB (ids.take (i + 1)) = R') := hR'
      rw [hR, ht0]
      clear hx hR hR' ht0 TK
      cases R with
      | false =>
        have R3 : Hid (R' = false) := by show _ = _; rw [R2.out]; rfl
        clear R2
        go_wp2
        go_loopg [10, 13] i (fun kx s10 s13 wr2 => ∃ k : Nat, s10 = .bool (t0 || decide (x ∈ ids.take k)) ∧ s13 = .int .i64 k ∧ k ≤ i ∧ i - k ≤ kx ∧ Hid (Sep w.heap.size w wr2 [File f b (Dk.new 40)]))
        case atStart => exact ⟨0, by simp, rfl, Nat.zero_le _, Nat.le_refl _, SR⟩
        case round =>
          obtain ⟨k, rfl, rfl, hk, hkk, SR2⟩ := hrel
          clear SR hc
          by_cases hkl : k < i
          · have hklz : (k : Int) < (i : Int) := by omega
            have c1 := IntRow.cells2 HI.out SR2.out.bel (Nat.le_refl _) (j := i) hil
            have c2 := IntRow.cells2 HI.out SR2.out.bel (Nat.le_refl _) (j := k) (by omega)
            rw [HX.out] at c1
            have T3 : Hid (decide (x ∈ ids.take (k + 1)) = (decide (x ∈ ids.take k) || decide (ids.getD k 0 = x))) := by
              show _ = _
              rw [take_snocD (by omega : k < ids.length), ← Bool.decide_or, decide_eq_decide, List.mem_append, List.mem_singleton, eq_comm (a := x)]
            generalize ids.getD k 0 = y at *
            obtain ⟨t1, ht1⟩ : ∃ t, (t0 || decide (x ∈ ids.take k)) = t := ⟨_, rfl⟩
            rw [ht1]
            have T4 : Hid ((t0 || decide (x ∈ ids.take (k + 1))) = (t1 || decide (y = x))) := by show _ = _; rw [T3.out, ← ht1, Bool.or_assoc]
            clear ht1 T3
            have hkl2 : (k : Int) < (ids.length : Int) := by omega
            cases t1 with
            | true =>
              go_wp2_with fail
              go_quiet (fail)
              go_wp2
              go_roundg (i - (k + 1))
              case measure => omega
              case rel => exact ⟨k + 1, by rw [T4.out]; rfl, by go_num, by omega, Nat.le_refl _, SR2.out.drewN _⟩
            | false =>
              by_cases hyx : y = x
              · have hb : (y == x) = true := by simp [hyx]
                rw [decide_eq_true hyx] at T4
                clear hyx
                go_wp2_with fail
                go_quiet (fail)
                go_wp2
                go_roundg (i - (k + 1))
                case measure => omega
                case rel => exact ⟨k + 1, by rw [T4.out]; rfl, by go_num, by omega, Nat.le_refl _, SR2.out.drewN _⟩
              · have hb : (y == x) = false := by simp [hyx]
                rw [decide_eq_false hyx] at T4
                clear hyx
                go_wp2_with fail
                go_quiet (fail)
                go_wp2
                go_roundg (i - (k + 1))
                case measure => omega
                case rel => exact ⟨k + 1, by rw [T4.out]; rfl, by go_num, by omega, Nat.le_refl _, SR2.out.drewN _⟩
          · have hklz : ¬ (k : Int) < (i : Int) := by omega
            obtain rfl : k = i := by omega
            go_wp2
            go_roundg (ids.length - (k + 1))
            case measure => omega
            case rel => exact ⟨k + 1, by rw [T2.out], by rw [HR'.out, R3.out], by go_num, by omega, Nat.le_refl _, SR2⟩
      | true =>
        by_cases g1 : 2 ≤ x
        · by_cases g2 : x < 40
          · have R3 : Hid (R' = true) := by show _ = _; rw [R2.out, decide_eq_true g1, decide_eq_true g2]; rfl
            clear R2
            go_wp2
            go_loopg [10, 13] i (fun kx s10 s13 wr2 => ∃ k : Nat, s10 = .bool (t0 || decide (x ∈ ids.take k)) ∧ s13 = .int .i64 k ∧ k ≤ i ∧ i - k ≤ kx ∧ Hid (Sep w.heap.size w wr2 [File f b (Dk.new 40)]))
            case atStart => exact ⟨0, by simp, rfl, Nat.zero_le _, Nat.le_refl _, SR⟩
            case round =>
              obtain ⟨k, rfl, rfl, hk, hkk, SR2⟩ := hrel
              clear SR hc
              by_cases hkl : k < i
              · have hklz : (k : Int) < (i : Int) := by omega
                have c1 := IntRow.cells2 HI.out SR2.out.bel (Nat.le_refl _) (j := i) hil
                have c2 := IntRow.cells2 HI.out SR2.out.bel (Nat.le_refl _) (j := k) (by omega)
                rw [HX.out] at c1
                have T3 : Hid (decide (x ∈ ids.take (k + 1)) = (decide (x ∈ ids.take k) || decide (ids.getD k 0 = x))) := by
                  show _ = _
                  rw [take_snocD (by omega : k < ids.length), ← Bool.decide_or, decide_eq_decide, List.mem_append, List.mem_singleton, eq_comm (a := x)]
                generalize ids.getD k 0 = y at *
                obtain ⟨t1, ht1⟩ : ∃ t, (t0 || decide (x ∈ ids.take k)) = t := ⟨_, rfl⟩
                rw [ht1]
                have T4 : Hid ((t0 || decide (x ∈ ids.take (k + 1))) = (t1 || decide (y = x))) := by show _ = _; rw [T3.out, ← ht1, Bool.or_assoc]
                clear ht1 T3
                have hkl2 : (k : Int) < (ids.length : Int) := by omega
                cases t1 with
                | true =>
                  go_wp2_with fail
                  go_quiet (fail)
                  go_wp2
                  go_roundg (i - (k + 1))
                  case measure => omega
                  case rel => exact ⟨k + 1, by rw [T4.out]; rfl, by go_num, by omega, Nat.le_refl _, SR2.out.drewN _⟩
                | false =>
                  by_cases hyx : y = x
                  · have hb : (y == x) = true := by simp [hyx]
                    rw [decide_eq_true hyx] at T4
                    clear hyx
                    go_wp2_with fail
                    go_quiet (fail)
                    go_wp2
                    go_roundg (i - (k + 1))
                    case measure => omega
                    case rel => exact ⟨k + 1, by rw [T4.out]; rfl, by go_num, by omega, Nat.le_refl _, SR2.out.drewN _⟩
                  · have hb : (y == x) = false := by simp [hyx]
                    rw [decide_eq_false hyx] at T4
                    clear hyx
                    go_wp2_with fail
                    go_quiet (fail)
                    go_wp2
                    go_roundg (i - (k + 1))
                    case measure => omega
                    case rel => exact ⟨k + 1, by rw [T4.out]; rfl, by go_num, by omega, Nat.le_refl _, SR2.out.drewN _⟩
              · have hklz : ¬ (k : Int) < (i : Int) := by omega
                obtain rfl : k = i := by omega
                go_wp2
                go_roundg (ids.length - (k + 1))
                case measure => omega
                case rel => exact ⟨k + 1, by rw [T2.out], by rw [HR'.out, R3.out], by go_num, by omega, Nat.le_refl _, SR2⟩
          · have R3 : Hid (R' = false) := by show _ = _; rw [R2.out, decide_eq_true g1, decide_eq_false g2]; rfl
            clear R2
            go_wp2
            go_loopg [10, 13] i (fun kx s10 s13 wr2 => ∃ k : Nat, s10 = .bool (t0 || decide (x ∈ ids.take k)) ∧ s13 = .int .i64 k ∧ k ≤ i ∧ i - k ≤ kx ∧ Hid (Sep w.heap.size w wr2 [File f b (Dk.new 40)]))
            case atStart => exact ⟨0, by simp, rfl, Nat.zero_le _, Nat.le_refl _, SR⟩
            case round =>
              obtain ⟨k, rfl, rfl, hk, hkk, SR2⟩ := hrel
              clear SR hc
              by_cases hkl : k < i
              · have hklz : (k : Int) < (i : Int) := by omega
                have c1 := IntRow.cells2 HI.out SR2.out.bel (Nat.le_refl _) (j := i) hil
                have c2 := IntRow.cells2 HI.out SR2.out.bel (Nat.le_refl _) (j := k) (by omega)
                rw [HX.out] at c1
                have T3 : Hid (decide (x ∈ ids.take (k + 1)) = (decide (x ∈ ids.take k) || decide (ids.getD k 0 = x))) := by
                  show _ = _
                  rw [take_snocD (by omega : k < ids.length), ← Bool.decide_or, decide_eq_decide, List.mem_append, List.mem_singleton, eq_comm (a := x)]
                generalize ids.getD k 0 = y at *
                obtain ⟨t1, ht1⟩ : ∃ t, (t0 || decide (x ∈ ids.take k)) = t := ⟨_, rfl⟩
                rw [ht1]
                have T4 : Hid ((t0 || decide (x ∈ ids.take (k + 1))) = (t1 || decide (y = x))) := by show _ = _; rw [T3.out, ← ht1, Bool.or_assoc]
                clear ht1 T3
                have hkl2 : (k : Int) < (ids.length : Int) := by omega
                cases t1 with
                | true =>
                  go_wp2_with fail
                  go_quiet (fail)
                  go_wp2
                  go_roundg (i - (k + 1))
                  case measure => omega
                  case rel => exact ⟨k + 1, by rw [T4.out]; rfl, by go_num, by omega, Nat.le_refl _, SR2.out.drewN _⟩
                | false =>
                  by_cases hyx : y = x
                  · have hb : (y == x) = true := by simp [hyx]
                    rw [decide_eq_true hyx] at T4
                    clear hyx
                    go_wp2_with fail
                    go_quiet (fail)
                    go_wp2
                    go_roundg (i - (k + 1))
                    case measure => omega
                    case rel => exact ⟨k + 1, by rw [T4.out]; rfl, by go_num, by omega, Nat.le_refl _, SR2.out.drewN _⟩
                  · have hb : (y == x) = false := by simp [hyx]
                    rw [decide_eq_false hyx] at T4
                    clear hyx
                    go_wp2_with fail
                    go_quiet (fail)
                    go_wp2
                    go_roundg (i - (k + 1))
                    case measure => omega
                    case rel => exact ⟨k + 1, by rw [T4.out]; rfl, by go_num, by omega, Nat.le_refl _, SR2.out.drewN _⟩
              · have hklz : ¬ (k : Int) < (i : Int) := by omega
                obtain rfl : k = i := by omega
                go_wp2
                go_roundg (ids.length - (k + 1))
                case measure => omega
                case rel => exact ⟨k + 1, by rw [T2.out], by rw [HR'.out, R3.out], by go_num, by omega, Nat.le_refl _, SR2⟩
        · have R3 : Hid (R' = false) := by show _ = _; rw [R2.out, decide_eq_false g1]; rfl
          clear R2
          go_wp2
          go_loopg [10, 13] i (fun kx s10 s13 wr2 => ∃ k : Nat, s10 = .bool (t0 || decide (x ∈ ids.take k)) ∧ s13 = .int .i64 k ∧ k ≤ i ∧ i - k ≤ kx ∧ Hid (Sep w.heap.size w wr2 [File f b (Dk.new 40)]))
          case atStart => exact ⟨0, by simp, rfl, Nat.zero_le _, Nat.le_refl _, SR⟩
          case round =>
            obtain ⟨k, rfl, rfl, hk, hkk, SR2⟩ := hrel
            clear SR hc
            by_cases hkl : k < i
            · have hklz : (k : Int) < (i : Int) := by omega
              have c1 := IntRow.cells2 HI.out SR2.out.bel (Nat.le_refl _) (j := i) hil
              have c2 := IntRow.cells2 HI.out SR2.out.bel (Nat.le_refl _) (j := k) (by omega)
              rw [HX.out] at c1
              have T3 : Hid (decide (x ∈ ids.take (k + 1)) = (decide (x ∈ ids.take k) || decide (ids.getD k 0 = x))) := by
                show _ = _
                rw [take_snocD (by omega : k < ids.length), ← Bool.decide_or, decide_eq_decide, List.mem_append, List.mem_singleton, eq_comm (a := x)]
              generalize ids.getD k 0 = y at *
              obtain ⟨t1, ht1⟩ : ∃ t, (t0 || decide (x ∈ ids.take k)) = t := ⟨_, rfl⟩
              rw [ht1]
              have T4 : Hid ((t0 || decide (x ∈ ids.take (k + 1))) = (t1 || decide (y = x))) := by show _ = _; rw [T3.out, ← ht1, Bool.or_assoc]
              clear ht1 T3
              have hkl2 : (k : Int) < (ids.length : Int) := by omega
              cases t1 with
              | true =>
                go_wp2_with fail
                go_quiet (fail)
                go_wp2
                go_roundg (i - (k + 1))
                case measure => omega
                case rel => exact ⟨k + 1, by rw [T4.out]; rfl, by go_num, by omega, Nat.le_refl _, SR2.out.drewN _⟩
              | false =>
                by_cases hyx : y = x
                · have hb : (y == x) = true := by simp [hyx]
                  rw [decide_eq_true hyx] at T4
                  clear hyx
                  go_wp2_with fail
                  go_quiet (fail)
                  go_wp2
                  go_roundg (i - (k + 1))
                  case measure => omega
                  case rel => exact ⟨k + 1, by rw [T4.out]; rfl, by go_num, by omega, Nat.le_refl _, SR2.out.drewN _⟩
                · have hb : (y == x) = false := by simp [hyx]
                  rw [decide_eq_false hyx] at T4
                  clear hyx
                  go_wp2_with fail
                  go_quiet (fail)
                  go_wp2
                  go_roundg (i - (k + 1))
                  case measure => omega
                  case rel => exact ⟨k + 1, by rw [T4.out]; rfl, by go_num, by omega, Nat.le_refl _, SR2.out.drewN _⟩
            · have hklz : ¬ (k : Int) < (i : Int) := by omega
              obtain rfl : k = i := by omega
              go_wp2
              go_roundg (ids.length - (k + 1))
              case measure => omega
              case rel => exact ⟨k + 1, by rw [T2.out], by rw [HR'.out, R3.out], by go_num, by omega, Nat.le_refl _, SR2⟩

    · have hilz : ¬ (i : Int) < (ids.length : Int) := by omega
      obtain rfl : i = ids.length := by omega
      rw [List.take_length]
      have hla := nmL_length l
      have C1 : Hid _ := cwrite_f normOk TT.out SR.out (.slice la l.length lc) l (HL.out.below SR.out.bel) ia ids.length ic ids (fun u d' hu => HI.out.below hu.bel (Nat.le_refl _)) (by omega) (by omega) (by show 0 + ids.length < 100000; omega)
      have C2 : Hid (∀ u, Sep w.heap.size w u [File f b ((Dk.new 40).cw l ids).2] → _) := fun u hu => pages_any (.slice la l.length lc) l u (HL.out.below hu.bel) (by omega)
      clear SR
      cases htw : twB ids with
      | true =>
        rw [keeps_no l ids (.inl htw)] at C1
        dsimp only at C1
        clear htw C2
        go_wp2_with fail
        refine Calls.mono C1.out ?_
        rintro e' w5 ⟨rfl, s5⟩
        have C3 : Hid _ := writes_f s5
        rw [show (Dk.new 40).writes = 0 from rfl] at C3
        have B5 : Hid (Below w.heap.size w w5) := s5.bel
        clear C1 s5
        go_wp2_with fail
        refine Calls.mono C3.out ?_
        rintro e' w6 ⟨rfl, rfl⟩
        clear C3
        go_wp2
        go_ret
        exact ⟨rfl, B5.out⟩
      | false =>
        by_cases hpg : ids.length < pagesN (nmL l).length
        · rw [keeps_no l ids (.inr hpg)] at C1 C2
          dsimp only at C1 C2
          have hpz : (ids.length : Int) < (pagesN (nmL l).length : Int) := by omega
          generalize pagesN (nmL l).length = pg at *
          clear htw hpg
          go_wp2_with fail
          refine Calls.mono C1.out ?_
          rintro e' w5 ⟨rfl, s5⟩
          have C2' : Hid _ := C2.out w5 s5
          have S5 : Hid (Sep w.heap.size w w5 [File f b (Dk.new 40)]) := s5
          clear C1 s5 C2
          go_wp2_with fail
          refine Calls.mono C2'.out ?_
          rintro e' w6 ⟨rfl, b6⟩
          have C3 : Hid _ := writes_f (S5.out.below b6)
          rw [show (Dk.new 40).writes = 0 from rfl] at C3
          have B6 : Hid (Below w.heap.size w w6) := (S5.out.below b6).bel
          clear C2' S5 b6
          go_wp2_with fail
          refine Calls.mono C3.out ?_
          rintro e' w7 ⟨rfl, rfl⟩
          clear C3
          go_wp2
          go_ret
          exact ⟨rfl, B6.out⟩
        · have hpz : ¬ (ids.length : Int) < (pagesN (nmL l).length : Int) := by omega
          cases hrt : rightB ids with
          | false =>
            rw [keeps_bad htw hpg hrt (by omega)] at C1
            dsimp only at C1
            generalize pagesN (nmL l).length = pg at *
            generalize ((Dk.new 40).cw l ids).2 = d1 at *
            clear htw hpg hrt
            go_wp2_with fail
            refine Calls.mono C1.out ?_
            rintro e' w5 ⟨rfl, s5⟩
            have C2' : Hid _ := C2.out w5 s5
            have S5 : Hid (Sep w.heap.size w w5 [File f b d1]) := s5
            clear C1 s5 C2
            go_wp2_with fail
            refine Calls.mono C2'.out ?_
            rintro e' w6 ⟨rfl, b6⟩
            have B6 : Hid (Below w.heap.size w w6) := (S5.out.below b6).bel
            clear C2' S5 b6
            go_wp2
            go_ret
            exact ⟨rfl, B6.out⟩
          | true =>
            obtain ⟨d1, E1, U1, K1, wr1, pd1, ll1, nd1⟩ := keeps_good htw hpg hrt (by omega)
            rw [E1] at C1 C2
            dsimp only at C1 C2
            have RI : Hid (∀ id ∈ ids, 2 ≤ id ∧ id < ((40 : Nat) : Int)) := rightB_iff.1 hrt
            have ND : Hid (ids.Nodup) := nd1
            have LL : Hid ((nmL l).length ≤ 29 * ids.length) := ll1
            have X1 : Hid (Up 40 d1 ∧ Chained d1 ids (nmL l) ∧ d1.pend.length ≤ 30) := ⟨U1, K1, by omega⟩
            have WR : Hid (d1.writes = ids.length) := wr1
            generalize pagesN (nmL l).length = pg at *
            clear htw hpg hrt E1 U1 K1 wr1 pd1 ll1 nd1
            obtain ⟨hd, hhd⟩ : ∃ hd, ids.headD 0 = hd := ⟨_, rfl⟩
            rw [hhd] at C1
            have HD : Hid (ids.headD 0 = hd) := hhd
            clear hhd
            go_wp2_with fail
            refine Calls.mono C1.out ?_
            rintro e' w5 ⟨rfl, s5⟩
            have C2' : Hid _ := C2.out w5 s5
            have S5 : Hid (Sep w.heap.size w w5 [File f b d1]) := s5
            clear C1 s5 C2
            go_wp2_with fail
            refine Calls.mono C2'.out ?_
            rintro e' w6 ⟨rfl, b6⟩
            have S6 : Hid (Sep w.heap.size w w6 [File f b d1]) := S5.out.below b6
            have C3 : Hid _ := writes_f S6.out
            rw [WR.out] at C3
            clear C2' S5 b6
            go_wp2_with fail
            refine Calls.mono C3.out ?_
            rintro e' w7 ⟨rfl, rfl⟩
            clear C3
            go_wp2
            go_loopg [16] oth.length (fun kx s16 wr => ∃ (i : Nat) (d : Dk), s16 = .int .i64 i ∧ i ≤ oth.length ∧ oth.length - i ≤ kx ∧ Hid (Sep w.heap.size w wr [File f b d]) ∧ Hid (Up 40 d ∧ Chained d ids (nmL l) ∧ d.pend.length ≤ 30 + i))
            case atStart => exact ⟨0, d1, rfl, Nat.zero_le _, Nat.le_refl _, S6, X1⟩
            case round =>
              obtain ⟨i, d, rfl, hi, hki, SR, XR⟩ := hrel
              clear S6 X1
              by_cases hil : i < oth.length
              · have hilz : (i : Int) < (oth.length : Int) := by omega
                go_wp2
                go_loopg [17, 18] ids.length (fun kx s17 s18 wr2 => ∃ k : Nat, s17 = .bool (decide (oth.getD i 0 ∈ ids.take k)) ∧ s18 = .int .i64 k ∧ k ≤ ids.length ∧ ids.length - k ≤ kx ∧ Hid (Sep w.heap.size w wr2 [File f b d]))
                case atStart => exact ⟨0, by simp, rfl, Nat.zero_le _, Nat.le_refl _, SR⟩
                case round =>
                  obtain ⟨k, rfl, rfl, hk, hkk, SR2⟩ := hrel
                  clear SR
                  obtain ⟨x, hx⟩ : ∃ x, oth.getD i 0 = x := ⟨_, rfl⟩
                  obtain ⟨r2, o2, rfl, hr2, hc2⟩ := (HO.out.below SR2.out.bel (Nat.le_refl _)).at hil
                  rw [hx] at hc2
                  have HX : Hid (oth.getD i 0 = x) := hx
                  by_cases hkl : k < ids.length
                  · have hklz : (k : Int) < (ids.length : Int) := by omega
                    obtain ⟨r1, o1, rfl, hr1, hc1⟩ := (HI.out.below SR2.out.bel (Nat.le_refl _)).at hkl
                    have T3 : Hid (decide (x ∈ ids.take (k + 1)) = (decide (x ∈ ids.take k) || decide (ids.getD k 0 = x))) := by
                      show _ = _
                      rw [take_snocD hkl, ← Bool.decide_or, decide_eq_decide, List.mem_append, List.mem_singleton, eq_comm (a := x)]
                    generalize ids.getD k 0 = y at *
                    rw [hx]
                    obtain ⟨t1, ht1⟩ : ∃ t, decide (x ∈ ids.take k) = t := ⟨_, rfl⟩
                    rw [ht1]
                    have T4 : Hid (decide (x ∈ ids.take (k + 1)) = (t1 || decide (y = x))) := by show _ = _; rw [T3.out, ← ht1]
                    clear ht1 T3 hx
                    cases t1 with
                    | true =>
                      go_wp2_with fail
                      go_quiet (fail)
                      go_wp2
                      go_roundg (ids.length - (k + 1))
                      case measure => omega
                      case rel => exact ⟨k + 1, by rw [HX.out, T4.out]; rfl, by go_num, by omega, Nat.le_refl _, SR2.out.drewN _⟩
                    | false =>
                      by_cases hyx : y = x
                      · have hb : (y == x) = true := by simp [hyx]
                        rw [decide_eq_true hyx] at T4
                        clear hyx
                        go_wp2_with fail
                        go_quiet (fail)
                        go_wp2
                        go_roundg (ids.length - (k + 1))
                        case measure => omega
                        case rel => exact ⟨k + 1, by rw [HX.out, T4.out]; rfl, by go_num, by omega, Nat.le_refl _, SR2.out.drewN _⟩
                      · have hb : (y == x) = false := by simp [hyx]
                        rw [decide_eq_false hyx] at T4
                        clear hyx
                        go_wp2_with fail
                        go_quiet (fail)
                        go_wp2
                        go_roundg (ids.length - (k + 1))
                        case measure => omega
                        case rel => exact ⟨k + 1, by rw [HX.out, T4.out]; rfl, by go_num, by omega, Nat.le_refl _, SR2.out.drewN _⟩
                  · have hklz : ¬ (k : Int) < (ids.length : Int) := by omega
                    obtain rfl : k = ids.length := by omega
                    rw [List.take_length, hx]
                    by_cases hm : x ∈ ids
                    · rw [decide_eq_true hm]
                      have XR2 : Hid (Up 40 d ∧ Chained d ids (nmL l) ∧ d.pend.length ≤ 30 + (i + 1)) := ⟨XR.out.1, XR.out.2.1, by have := XR.out.2.2; omega⟩
                      clear hm hx hc2
                      go_wp2
                      go_roundg (oth.length - (i + 1))
                      case measure => omega
                      case rel => exact ⟨i + 1, d, by go_num, by omega, Nat.le_refl _, SR2, XR2⟩
                    · rw [decide_eq_false hm]
                      obtain ⟨u1, u2, u3⟩ := other_wr XR.out.1 XR.out.2.1 hm ⟨#[120]⟩
                      have hpp := XR.out.2.2
                      have XR2 : Hid (Up 40 (d.wr x 3 ⟨#[120]⟩).2 ∧ Chained (d.wr x 3 ⟨#[120]⟩).2 ids (nmL l) ∧ (d.wr x 3 ⟨#[120]⟩).2.pend.length ≤ 30 + (i + 1)) := ⟨u1, u2, by omega⟩
                      have CWr : Hid _ := write_f TT.out SR2.out x 3 ⟨#[120]⟩ (show 1 ≤ maxLen by decide) (by omega)
                      rw [show ((3 : UInt8).toNat : Int) = 3 from rfl] at CWr
                      generalize (d.wr x 3 ⟨#[120]⟩).2 = d2 at *
                      generalize (d.wr x 3 ⟨#[120]⟩).1 = er at *
                      clear hm hx u1 u2 u3 hpp
                      go_wp2_with fail
                      refine Calls.mono CWr.out ?_
                      rintro e' w8 ⟨rfl, s8⟩
                      have S8 : Hid (Sep w.heap.size w w8 [File f b d2]) := s8
                      clear CWr s8 SR2 hc2
                      go_wp2
                      go_roundg (oth.length - (i + 1))
                      case measure => omega
                      case rel => exact ⟨i + 1, d2, by go_num, by omega, Nat.le_refl _, S8, XR2⟩
              · have hilz : ¬ (i : Int) < (oth.length : Int) := by omega
                obtain ⟨d3, R1, _, _⟩ := cr_chain (by decide) XR.out.1 XR.out.2.1 ND.out RI.out (nmL_cn l) LL.out
                rw [HD.out] at R1
                have C3 : Hid _ := cread_f normOk TT.out SR.out hd (by rw [XR.out.1.sl]; omega)
                rw [R1] at C3
                dsimp only at C3
                clear R1 SR XR
                go_wp2_with fail
                refine Calls.mono C3.out ?_
                rintro e' w9 ⟨a1, n1, c1, a2, n2, c2, rfl, s9⟩
                have S9 : Hid (Sep w.heap.size w w9 (RunR (.slice a1 n1 c1) (nmL l) :: RowR 3 (.slice a2 n2 c2) (ids.map (Value.int .i64)) :: File f b d3 :: [])) := s9
                have C5 : Hid _ := rnorm_any (.slice la l.length lc) l w9 (HL.out.below S9.out.bel) (by omega)
                clear C3 s9
                go_wp2_with fail
                refine Calls.mono C5.out ?_
                rintro e' w10 ⟨v8, rfl, o8, b8⟩
                have S10 : Hid (Sep w.heap.size w w10 (RunR (.slice a1 n1 c1) (nmL l) :: RowR 3 (.slice a2 n2 c2) (ids.map (Value.int .i64)) :: File f b d3 :: [])) := S9.out.below b8
                have C6 : Hid _ := same_any (.slice a1 n1 c1) v8 (nmL l) (nmL l) w10 S10.out.run.own.row o8 (by omega) (by omega)
                rw [decide_eq_true rfl] at C6
                clear C5 o8 b8 S9
                go_wp2_with fail
                refine Calls.mono C6.out ?_
                rintro e' w11 ⟨rfl, b9⟩
                have S11 : Hid (Sep w.heap.size w w11 (RunR (.slice a1 n1 c1) (nmL l) :: RowR 3 (.slice a2 n2 c2) (ids.map (Value.int .i64)) :: File f b d3 :: [])) := S10.out.below b9
                have C7 : Hid _ := sameI_any (.slice a2 n2 c2) (.slice ia ids.length ic) ids ids w11 S11.out.up1.introw (HI.out.below S11.out.bel (Nat.le_refl _)) (by omega) (by omega)
                rw [decide_eq_true rfl] at C7
                clear C6 b9 S10
                go_wp2_with fail
                refine Calls.mono C7.out ?_
                rintro e' w12 ⟨rfl, b12⟩
                have B12 : Hid (Below w.heap.size w w12) := (S11.out.below b12).bel
                clear C7 b12 S11
                go_wp2
                go_ret
                exact ⟨rfl, B12.out⟩

end Go.Proofs.YtnjnggjbeklmpaaDoor

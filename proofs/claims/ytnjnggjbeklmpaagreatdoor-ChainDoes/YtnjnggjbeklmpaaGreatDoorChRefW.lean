/-
  The walk of the document's Write of a chain.
-/
import Derived.Test.YtnjnggjbeklmpaaGreatDoorChPut
import Derived.Test.YtnjnggjbeklmpaaGreatDoorChRefP
import Derived.Test.YtnjnggjbeklmpaaGreatDoorChLaw
import Derived.Test.YtnjnggjbeklmpaaGreatDoorBRef
namespace Go.Proofs.YtnjnggjbeklmpaaGreatDoor
open Go.Shelf Go.RowKit Go.Lib Go.Sort
set_option linter.unusedVariables false

theorem wrs_out {d : Dk} {s : List Pr} {ids : List Int} {i : Nat} (hi : i < ids.length) (hn : hasP d (ids.getD i 0) = false) : wrs (ids.drop i) d s = (40, d) := by
  cases h : nextB (ids.getD (i + 1) 0) with
  | false => exact wrs_no hi h
  | true =>
    have e : ∀ t, d.wr (ids.getD i 0) 3 t = (40, d) := fun t => by unfold Dk.wr; rw [hn]; rfl
    rw [wrs_yes hi h, e, if_neg (show (40 : Int) ≠ 0 by decide)]
theorem run_mid (ao : Option Addr) (n c k j : Nat) (hk : k ≤ j) (hj : j ≤ c) (hao : ao = none ∨ ∃ g o, ao = some ⟨g, o, none⟩) (u : World) : (Instr.slice 33 (.slice ao n c) (some (.int .i64 (k : Int))) (some (.int .i64 (j : Int))) none).run Tryz.prog u = .ok (.slice (if c = k then ao else ao.map (·.add (k * 2))) (j - k) (c - k)) u := by
  rw [run_slice_lh u 33 ao n c runSlU .i64 .i64 k j (by omega) (by omega) (by omega), runSlZ]
  simp only [Result.andThen, sliced, Int.toNat_natCast]
theorem mid_part {s : List Pr} (i : Nat) : (s.drop (min (29 * i) s.length)).take (min (29 * (i + 1)) s.length - min (29 * i) s.length) = (s.drop (29 * i)).take 29 := by
  rcases Nat.le_total (29 * i) s.length with h | h
  · rw [Nat.min_eq_left h]
    rcases Nat.le_total (29 * (i + 1)) s.length with h2 | h2
    · rw [Nat.min_eq_left h2, show 29 * (i + 1) - 29 * i = 29 by omega]
    · rw [Nat.min_eq_right h2, List.take_of_length_le (by rw [List.length_drop]; omega), List.take_of_length_le (by rw [List.length_drop]; omega)]
  · rw [Nat.min_eq_right h, List.drop_length, List.drop_of_length_le h]; simp
theorem take_snocW {ids : List Int} {i : Nat} (h : i < ids.length) : ids.take (i + 1) = ids.take i ++ [ids.getD i 0] := by rw [List.take_succ_eq_append_getElem h]; simp [List.getD_eq_getElem?_getD, h]
theorem w29 {i : Nat} (h : i ≤ 10000) : wrap64 ((i : Int) + 1) = (i : Int) + 1 ∧ wrap64 (29 * (i : Int)) = 29 * (i : Int) ∧ wrap64 (29 * ((i : Int) + 1)) = 29 * ((i : Int) + 1) := ⟨w64 (by omega) (by omega), w64 (by omega) (by omega), w64 (by omega) (by omega)⟩
theorem next_no {nx : Int} (h : nextB nx = false) : nx < 0 ∨ (¬ nx < 0 ∧ 4294967295 < nx) := by
  rcases Int.lt_or_le nx 0 with h0 | h0
  · exact .inl h0
  · refine .inr ⟨by omega, ?_⟩
    rcases Int.lt_or_le 4294967295 nx with h4 | h4
    · exact h4
    · rw [nextB_iff.2 ⟨h0, h4⟩] at h; cases h
theorem Wf.of_endB {s : List Pr} (h : ∀ r ∈ s, endB r = true) : Wf s := fun r hr => by
  have := h r hr
  unfold endB at this
  have := of_decide_eq_true this
  omega

section
variable {B : Nat} {w0 w : World} {g c : Nat} {d : Dk} {l : List Res}
set_option maxHeartbeats 4000000 in
set_option maxRecDepth 100000 in
theorem rwrite_f (h : Sep B w0 w (RFile g c d :: l)) (lv : Value) (L : List Pr) (hL : Row encP 2 w lv L) (ao : Option Addr) (n cc : Nat) (ids : List Int) (hI : ∀ u d', Sep B w0 u (RFile g c d' :: l) → IntRow u (.slice ao n cc) ids)
    (hn : ids.length ≤ 10000) (hLl : L.length ≤ 40000) (hp : d.pend.length + ids.length < 100000) :
    Calls Tryz.prog 9 #[ptr g, lv, .slice ao n cc] w fun e w' => e = .returned (.tuple #[.int .i64 (d.cw L ids).1.1, .int .i64 (d.cw L ids).1.2]) ∧ Sep B w0 w' (RFile g c (d.cw L ids).2 :: l) := by
  obtain rfl := (hI w d h).len
  have HI : Hid (∀ u d', Sep B w0 u (RFile g c d' :: l) → IntRow u (.slice ao ids.length cc) ids) := hI
  have HS : Hid (Sep B w0 w (RFile g c d :: l)) := h
  have HB : Hid (Below w.heap.size w w) := Below.refl _ _
  obtain ⟨la, lc, rfl, _⟩ := id hL
  have HL : Aside (Row encP 2 w (.slice la L.length lc) L) := hL
  have hSl := nmL_length L
  have HE : Hid (∀ r ∈ nmL L, endB r = true) := cn_endB (nmL_cn L)
  have EW : Hid (d.cw L ids = if (decide (pagesN (nmL L).length ≤ ids.length) && decide ids.Nodup) = true then (if (wrs ids d (nmL L)).1 = 0 then (ids.headD 0, 0) else (0, (wrs ids d (nmL L)).1), (wrs ids d (nmL L)).2) else ((0, 1), d)) := rfl
  generalize d.cw L ids = CW at *
  obtain ⟨⟨r1, r2⟩, r3⟩ := CW
  clear h hI hL
  go_enter Tryz.func9, Tryz.ntmps9
  go_wp2
  go_loopg [8] ids.length (fun kx s8 wr => ∃ i : Nat, s8 = .int .i64 i ∧ i ≤ ids.length ∧ ids.length - i ≤ kx ∧ Hid (Sep B w0 wr (RFile g c d :: l)) ∧ Hid (Below w.heap.size w wr) ∧ Hid ((ids.take i).Nodup))
  case atStart => exact ⟨0, rfl, Nat.zero_le _, Nat.le_refl _, HS, HB, by simp [Hid]⟩
  case round =>
    obtain ⟨i, rfl, hi, hki, SR, SB, HN⟩ := hrel
    clear HS HB
    by_cases hil : i < ids.length
    · have hilz : (i : Int) < (ids.length : Int) := by omega
      obtain ⟨x, hx⟩ : ∃ x, ids.getD i 0 = x := ⟨_, rfl⟩
      have HX : Hid (ids.getD i 0 = x) := hx
      clear hx
      go_wp2
      go_loopg [9] i (fun kx s9 wr2 => ∃ k : Nat, s9 = .int .i64 k ∧ k ≤ i ∧ i - k ≤ kx ∧ Hid (Sep B w0 wr2 (RFile g c d :: l)) ∧ Hid (Below w.heap.size w wr2) ∧ Hid (x ∉ ids.take k))
      case atStart => exact ⟨0, rfl, Nat.zero_le _, Nat.le_refl _, SR, SB, by simp [Hid]⟩
      case round =>
        obtain ⟨k, rfl, hk, hkk, SR2, SB2, HM⟩ := hrel
        clear SR SB
        by_cases hkl : k < i
        · have hklz : (k : Int) < (i : Int) := by omega
          have hkl2 : (k : Int) < (ids.length : Int) := by omega
          obtain ⟨ir, io, rfl, hir, c1⟩ := (HI.out wr d SR2.out).at hil
          obtain ⟨_, _, ee, _, c2⟩ := (HI.out wr d SR2.out).at (show k < ids.length by omega)
          cases ee
          rw [HX.out] at c1
          have T3 : Hid (ids.take (k + 1) = ids.take k ++ [ids.getD k 0]) := take_snocW (by omega : k < ids.length)
          have HY : Hid (ids.getD k 0 ∈ ids.take i) := by
            show _ ∈ _
            have : ids.getD k 0 = (ids.take i)[k]'(by rw [List.length_take]; omega) := by simp [List.getD_eq_getElem?_getD, show k < ids.length by omega]
            rw [this]; exact List.getElem_mem _
          generalize ids.getD k 0 = y at *
          by_cases hyx : y = x
          · have hb : (y == x) = true := by simp [hyx]
            have E : Hid (((r1, r2), r3) = (((0 : Int), (1 : Int)), d)) := by
              show _ = _
              have hnn : ¬ ids.Nodup := fun hnn => by
                have h1 : (ids.take (i + 1)).Nodup := hnn.sublist (List.take_sublist _ _)
                rw [take_snocW hil, nodup_snoc, HX.out, ← hyx] at h1
                exact h1.2 HY.out
              rw [EW.out, if_neg (by rw [decide_eq_false hnn, Bool.and_false]; decide)]
            clear hyx
            go_wp2_with fail
            go_quiet (fail)
            go_wp2
            go_ret2
            cases E.out
            exact ⟨rfl, SR2.out.drewN _⟩
          · have hb : (y == x) = false := by simp [hyx]
            have HM2 : Hid (x ∉ ids.take (k + 1)) := by
              show _ ∉ _
              rw [T3.out, List.mem_append, List.mem_singleton]
              rintro (hh | hh)
              · exact HM.out hh
              · exact hyx hh.symm
            clear hyx
            have B6 : Hid (∀ nq, Below w.heap.size w (wr.drewN nq)) := fun nq => by have := below_grown SB2.out SB2.out.size nq #[]; rw [grow_empty] at this; exact this
            go_wp2_with fail
            go_quiet (fail)
            go_wp2
            go_roundg (i - (k + 1))
            case measure => omega
            case rel => exact ⟨k + 1, by go_num, by omega, Nat.le_refl _, SR2.out.drewN _, B6.out _, HM2⟩
        · have hklz : ¬ (k : Int) < (i : Int) := by omega
          obtain rfl : k = i := by omega
          have HN2 : Hid ((ids.take (k + 1)).Nodup) := by
            show List.Nodup _
            rw [take_snocW hil, nodup_snoc, HX.out]
            exact ⟨HN.out, HM.out⟩
          go_wp2
          go_roundg (ids.length - (k + 1))
          case measure => omega
          case rel => exact ⟨k + 1, by go_num, by omega, Nat.le_refl _, SR2, SB2, HN2⟩
    · have hilz : ¬ (i : Int) < (ids.length : Int) := by omega
      obtain rfl : i = ids.length := by omega
      rw [List.take_length] at HN
      have RL : Aside (Row encP 2 wr (.slice la L.length lc) L) := HL.out.below SB.out
      have CP : Hid _ := rpages_any _ L wr RL.out hLl
      clear HL SB
      by_cases hpg : (ids.length : Int) < (pagesN (nmL L).length : Int)
      · have E : Hid (((r1, r2), r3) = (((0 : Int), (1 : Int)), d)) := by
          show _ = _
          rw [EW.out, if_neg (by rw [decide_eq_false (by omega), Bool.false_and]; decide)]
        clear EW
        go_wp2_with fail
        refine Calls.mono CP.out ?_
        rintro e w2 ⟨rfl, b2⟩
        have S2 : Hid (Sep B w0 w2 (RFile g c d :: l)) := SR.out.below b2
        clear b2
        go_wp2
        go_ret2
        cases E.out
        exact ⟨rfl, S2.out⟩
      have EW2 : Hid (((r1, r2), r3) = (if (wrs ids d (nmL L)).1 = 0 then (ids.headD 0, 0) else (0, (wrs ids d (nmL L)).1), (wrs ids d (nmL L)).2)) := by
        show _ = _
        rw [EW.out, if_pos (by rw [decide_eq_true (by omega), decide_eq_true HN.out]; rfl)]
      clear EW HN
      go_wp2_with fail
      refine Calls.mono CP.out ?_
      rintro e w2 ⟨rfl, b2⟩
      have S2 : Hid (Sep B w0 w2 (RFile g c d :: l)) := SR.out.below b2
      have CN : Hid _ := rnorm_own _ L w2 (RL.out.below b2) hLl
      clear b2 CP RL SR
      go_wp2_with fail
      refine Calls.mono CN.out ?_
      rintro e w3 ⟨v3, rfl, o3, b3⟩
      have S3 : Hid (Sep B w0 w3 (RunR v3 (nmL L) :: RFile g c d :: l)) := S2.out.addRun b3 o3
      obtain ⟨va, vc, rfl, hva⟩ := o3.shape
      have HV : Hid (va = none ∨ ∃ g o, va = some ⟨g, o, none⟩) := hva
      clear CN o3 b3 S2 hva
      generalize nmL L = S at *
      generalize pagesN S.length = PN at *
      go_wp2
      go_loopg [11] ids.length (fun kx s11 wr => ∃ (i : Nat) (dd : Dk), s11 = .int .i64 i ∧ i ≤ ids.length ∧ ids.length - i ≤ kx ∧ Hid (Sep B w0 wr (RunR (.slice va S.length vc) S :: RFile g c dd :: l)) ∧
        Hid (wrs ids d S = wrs (ids.drop i) dd (S.drop (29 * i))) ∧ dd.pend.length + ids.length ≤ d.pend.length + ids.length + i)
      case atStart => exact ⟨0, d, rfl, Nat.zero_le _, Nat.le_refl _, S3, rfl, Nat.le_refl _⟩
      case round =>
        obtain ⟨i, dd, rfl, hi, hki, SR, HW, hdp⟩ := hrel
        clear S3
        by_cases hil : i < ids.length
        · have hilz : (i : Int) < (ids.length : Int) := by omega
          obtain ⟨ir, io, rfl, hir, hic⟩ := (HI.out wr dd SR.out.drop).at hil
          obtain ⟨k0, hk0⟩ := SR.out.drop.rcell
          obtain ⟨sa, sc, k1, hk1⟩ := SR.out.drop.rsure
          by_cases hhp : hasP dd (ids.getD i 0) = false
          · have E : Hid (wrs ids d S = (40, dd)) := by show _ = _; rw [HW.out, wrs_out hil hhp]
            have hlow : ids.getD i 0 < 2 ∨ (¬ ids.getD i 0 < 2 ∧ (dd.sure.length : Int) ≤ ids.getD i 0) := by unfold hasP at hhp; simp only [decide_eq_false_iff_not] at hhp; omega
            clear hhp HW
            generalize ids.getD i 0 = x at *
            generalize dd.sure.length = SL at *
            rcases hlow with h2 | ⟨h2, h3⟩
            · go_wp2_with fail
              go_quiet (fail)
              go_wp2
              go_ret2
              have E3 := EW2.out
              rw [E.out, if_neg (show (40 : Int) ≠ 0 by decide)] at E3
              cases E3
              exact ⟨rfl, (SR.out.drewN _).drop⟩
            · go_wp2_with fail
              go_quiet (fail)
              go_wp2
              go_ret2
              have E3 := EW2.out
              rw [E.out, if_neg (show (40 : Int) ≠ 0 by decide)] at E3
              cases E3
              exact ⟨rfl, (SR.out.drewN _).drop⟩
          · have hp1 : hasP dd (ids.getD i 0) = true := by simpa using hhp
            obtain ⟨h2, h3⟩ := of_decide_eq_true hp1
            have hSL : dd.sure.length ≤ 16384 := SR.out.drop.rok.len
            obtain ⟨x, hx⟩ : ∃ x, ids.getD i 0 = x := ⟨_, rfl⟩
            have HX : Hid (ids.getD i 0 = x) := hx
            rw [hx] at h2 h3 hic
            have h2' : ¬ x < 2 := by omega
            have h3' : ¬ (dd.sure.length : Int) ≤ x := by omega
            clear hx hhp hp1
            have SQ : Hid (∀ nq, Sep B w0 (wr.drewN nq) (RunR (.slice va S.length vc) S :: RFile g c dd :: l)) := fun nq => SR.out.drewN nq
            obtain ⟨SL, hSLe⟩ : ∃ k, dd.sure.length = k := ⟨_, rfl⟩
            rw [hSLe] at h3 h3' k1 hSL
            clear hSLe
            go_wp2_with fail
            go_quiet (fail)
            have SW : Hid (Sep B w0 (wr.drewN nq) (RunR (.slice va S.length vc) S :: RFile g c dd :: l)) := SQ.out nq
            clear hic hir k0 hk0 k1 hk1 SQ SR
            obtain ⟨wq, hwq⟩ : ∃ wq, wr.drewN nq = wq := ⟨_, rfl⟩
            rw [hwq] at SW ⊢
            clear hwq
            obtain ⟨fk, hfk⟩ : ∃ k, min (29 * i) S.length = k := ⟨_, rfl⟩
            obtain ⟨tk, htk⟩ : ∃ k, min (29 * (i + 1)) S.length = k := ⟨_, rfl⟩
            have MP : Hid ((S.drop fk).take (tk - fk) = (S.drop (29 * i)).take 29) := by show _ = _; rw [← hfk, ← htk]; exact mid_part i
            have hft : fk ≤ tk := by omega
            have htS : tk ≤ S.length := by omega
            have R0 := SW.out.run.own.row
            have hcap : S.length ≤ vc := by obtain ⟨_, _, e, h, _⟩ := R0; cases e; exact h
            have hs1 := run_mid va S.length vc fk tk hft (Nat.le_trans htS hcap) HV.out
            have R1 : Aside (∀ u, Sep B w0 u (RunR (.slice va S.length vc) S :: RFile g c dd :: l) → Row encP 2 u (.slice (if vc = fk then va else va.map (·.add (fk * 2))) (tk - fk) (vc - fk)) ((S.drop (29 * i)).take 29)) := fun u hu => by
              have := (hu.run.own.row.off fk (by omega)).sub (tk - fk) (by omega)
              rwa [MP.out] at this
            have hPL : ((S.drop (29 * i)).take 29).length ≤ 29 := by rw [List.length_take]; omega
            have HPE : Hid (∀ r ∈ (S.drop (29 * i)).take 29, endB r = true) := fun r hr => HE.out r (List.mem_of_mem_drop (List.mem_of_mem_take hr))
            have HDP : Hid (dd.pend.length + ids.length ≤ d.pend.length + ids.length + i) := hdp
            obtain ⟨z, hz⟩ : ∃ z : Int, (i : Int) = z := ⟨_, rfl⟩
            have hm1 : min (29 * z) (S.length : Int) = (fk : Int) := by omega
            have hm2 : min (29 * (z + 1)) (S.length : Int) = (tk : Int) := by omega
            have HZ : Hid ((i : Int) = z) := hz
            have hz0 : 0 ≤ z := by omega
            have hzN : z.toNat = i := by omega
            have hzM : (z + 1).toNat = i + 1 := by omega
            have E1 : Hid (wrap64 (z + 1) = z + 1) := w64 (by omega) (by omega)
            have E2 : Hid (wrap64 (29 * z) = 29 * z) := w64 (by omega) (by omega)
            have E3 : Hid (wrap64 (29 * (z + 1)) = 29 * (z + 1)) := w64 (by omega) (by omega)
            rw [hz] at hilz ⊢
            clear hfk htk hz hdp R0
            generalize (if vc = fk then va else va.map (·.add (fk * 2))) = va2 at *
            by_cases hj : i + 1 < ids.length
            · have hjz : z + 1 < (ids.length : Int) := by omega
              obtain ⟨_, _, ee, hjr, hjc⟩ := (HI.out wq dd SW.out.drop).at hj
              cases ee
              obtain ⟨nx, hnx0⟩ : ∃ nx, ids.getD (i + 1) 0 = nx := ⟨_, rfl⟩
              have HNX : Hid (ids.getD (i + 1) 0 = nx) := hnx0
              rw [hnx0] at hjc
              clear hnx0
              cases hnx : nextB nx with
              | false =>
                have EN : Hid (wrs ids d S = (40, dd)) := by show _ = _; rw [HW.out, wrs_no hil (by rw [HNX.out]; exact hnx)]
                have hno := next_no hnx
                clear HW hnx
                rcases hno with h4 | ⟨h4, h5⟩
                · have e1 := E1.out
                  go_wp2
                  go_ret2
                  have E9 := EW2.out
                  rw [EN.out, if_neg (show (40 : Int) ≠ 0 by decide)] at E9
                  cases E9
                  exact ⟨rfl, SW.out.drop⟩
                · have e1 := E1.out
                  go_wp2
                  go_ret2
                  have E9 := EW2.out
                  rw [EN.out, if_neg (show (40 : Int) ≠ 0 by decide)] at E9
                  cases E9
                  exact ⟨rfl, SW.out.drop⟩
              | true =>
                obtain ⟨h4, h5⟩ := nextB_iff.1 hnx
                have h4' : ¬ nx < 0 := by omega
                have h5' : ¬ 4294967295 < nx := by omega
                have CB : Hid (Calls Tryz.prog 30 #[.int .i64 nx, .slice va2 (tk - fk) (vc - fk)] wq fun e w' => e = .returned (.tuple #[.string (bodyS nx ((S.drop (29 * i)).take 29)), .bool true]) ∧ Below wq.heap.size wq w') := by
                  have := rbody_any nx (by omega) _ _ wq (R1.out wq SW.out) (Wf.of_endB HPE.out) (by omega)
                  rw [bodyB_sub HE.out, hnx] at this
                  exact this
                have hbz := bodyS_size nx ((S.drop (29 * i)).take 29)
                have CWr : Hid (∀ u, Sep B w0 u (RunR (.slice va S.length vc) S :: RFile g c dd :: l) → _) := fun u hu => put_rf hu.up1 x 3 (bodyS nx ((S.drop (29 * i)).take 29)) (by omega) (by unfold maxLen; omega) (by have := HDP.out; omega)
                rw [show ((3 : UInt8).toNat : Int) = 3 from rfl] at CWr
                have EY := wrs_yes (d := dd) (s := S.drop (29 * i)) hil (by rw [HNX.out]; exact hnx)
                rw [List.drop_drop, show 29 * i + 29 = 29 * (i + 1) by omega, HX.out, HNX.out] at EY
                have hps := (dd.wr_sure x 3 (bodyS nx ((S.drop (29 * i)).take 29))).2
                have hp2 : (dd.wr x 3 (bodyS nx ((S.drop (29 * i)).take 29))).2.pend.length + ids.length ≤ d.pend.length + ids.length + (i + 1) := by have := HDP.out; omega
                clear hnx hbz R1 HPE hPL MP hps HDP
                generalize bodyS nx ((S.drop (29 * i)).take 29) = bs at *
                generalize dd.wr x 3 bs = dw at *
                obtain ⟨er, d2⟩ := dw
                dsimp only at EY CWr hp2
                by_cases her : er = 0
                · subst her
                  have EW3 : Hid (wrs ids d S = wrs (ids.drop (i + 1)) d2 (S.drop (29 * (i + 1)))) := by show _ = _; rw [HW.out, EY, if_pos rfl]
                  clear EY HW
                  have e1 := E1.out
                  have e2 := E2.out
                  have e3 := E3.out
                  clear E1 E2 E3
                  go_wp2_with fail
                  refine Calls.mono CB.out ?_
                  rintro e w5 ⟨rfl, b5⟩
                  have S5 : Hid (Sep B w0 w5 (RunR (.slice va S.length vc) S :: RFile g c dd :: l)) := SW.out.below b5
                  have C6 : Hid _ := CWr.out w5 S5.out
                  obtain ⟨_, _, ee, hi5, hc5⟩ := (HI.out w5 dd S5.out.drop).at hil
                  cases ee
                  rw [HX.out] at hc5
                  clear b5 CB CWr SW S5 hjc hjr
                  go_wp2_with fail
                  refine Calls.mono C6.out ?_
                  rintro e w6 ⟨rfl, s6⟩
                  have S6 : Hid (Sep B w0 w6 (RunR (.slice va S.length vc) S :: RFile g c d2 :: l)) := s6.up1
                  clear C6 s6 hc5
                  go_wp2
                  go_roundg (ids.length - (i + 1))
                  case measure => omega
                  case rel => exact ⟨i + 1, d2, by rw [← HZ.out]; go_num, by omega, Nat.le_refl _, S6, EW3, hp2⟩
                · have EW3 : Hid (wrs ids d S = (er, d2)) := by show _ = _; rw [HW.out, EY, if_neg her]
                  have HER : Hid (er ≠ 0) := her
                  have hne : (er != 0) = true := by rw [bne_iff_ne]; exact her
                  clear EY HW her
                  have e1 := E1.out
                  have e2 := E2.out
                  have e3 := E3.out
                  clear E1 E2 E3
                  go_wp2_with fail
                  refine Calls.mono CB.out ?_
                  rintro e w5 ⟨rfl, b5⟩
                  have S5 : Hid (Sep B w0 w5 (RunR (.slice va S.length vc) S :: RFile g c dd :: l)) := SW.out.below b5
                  have C6 : Hid _ := CWr.out w5 S5.out
                  obtain ⟨_, _, ee, hi5, hc5⟩ := (HI.out w5 dd S5.out.drop).at hil
                  cases ee
                  rw [HX.out] at hc5
                  clear b5 CB CWr SW S5 hjc hjr
                  go_wp2_with fail
                  refine Calls.mono C6.out ?_
                  rintro e w6 ⟨rfl, s6⟩
                  have S6 : Hid (Sep B w0 w6 (RunR (.slice va S.length vc) S :: RFile g c d2 :: l)) := s6.up1
                  clear C6 s6 hc5
                  go_wp2
                  go_ret2
                  have E9 := EW2.out
                  rw [EW3.out, if_neg HER.out] at E9
                  cases E9
                  exact ⟨rfl, S6.out.drop⟩
            · have hjz : ¬ z + 1 < (ids.length : Int) := by omega
              have HNX : Hid (ids.getD (i + 1) 0 = 0) := by show _ = _; rw [List.getD_eq_getElem?_getD, List.getElem?_eq_none (by omega)]; rfl
              have hnx : nextB 0 = true := rfl
              obtain ⟨h4, h5⟩ := nextB_iff.1 hnx
              have h4' : ¬ (0 : Int) < 0 := by omega
              have h5' : ¬ 4294967295 < (0 : Int) := by omega
              have CB : Hid (Calls Tryz.prog 30 #[.int .i64 (0 : Int), .slice va2 (tk - fk) (vc - fk)] wq fun e w' => e = .returned (.tuple #[.string (bodyS (0 : Int) ((S.drop (29 * i)).take 29)), .bool true]) ∧ Below wq.heap.size wq w') := by
                have := rbody_any (0 : Int) (by omega) _ _ wq (R1.out wq SW.out) (Wf.of_endB HPE.out) (by omega)
                rw [bodyB_sub HE.out, hnx] at this
                exact this
              have hbz := bodyS_size (0 : Int) ((S.drop (29 * i)).take 29)
              have CWr : Hid (∀ u, Sep B w0 u (RunR (.slice va S.length vc) S :: RFile g c dd :: l) → _) := fun u hu => put_rf hu.up1 x 3 (bodyS (0 : Int) ((S.drop (29 * i)).take 29)) (by omega) (by unfold maxLen; omega) (by have := HDP.out; omega)
              rw [show ((3 : UInt8).toNat : Int) = 3 from rfl] at CWr
              have EY := wrs_yes (d := dd) (s := S.drop (29 * i)) hil (by rw [HNX.out]; exact hnx)
              rw [List.drop_drop, show 29 * i + 29 = 29 * (i + 1) by omega, HX.out, HNX.out] at EY
              have hps := (dd.wr_sure x 3 (bodyS (0 : Int) ((S.drop (29 * i)).take 29))).2
              have hp2 : (dd.wr x 3 (bodyS (0 : Int) ((S.drop (29 * i)).take 29))).2.pend.length + ids.length ≤ d.pend.length + ids.length + (i + 1) := by have := HDP.out; omega
              clear hnx hbz R1 HPE hPL MP hps HDP
              generalize bodyS (0 : Int) ((S.drop (29 * i)).take 29) = bs at *
              generalize dd.wr x 3 bs = dw at *
              obtain ⟨er, d2⟩ := dw
              dsimp only at EY CWr hp2
              by_cases her : er = 0
              · subst her
                have EW3 : Hid (wrs ids d S = wrs (ids.drop (i + 1)) d2 (S.drop (29 * (i + 1)))) := by show _ = _; rw [HW.out, EY, if_pos rfl]
                clear EY HW
                have e1 := E1.out
                have e2 := E2.out
                have e3 := E3.out
                clear E1 E2 E3
                go_wp2_with fail
                refine Calls.mono CB.out ?_
                rintro e w5 ⟨rfl, b5⟩
                have S5 : Hid (Sep B w0 w5 (RunR (.slice va S.length vc) S :: RFile g c dd :: l)) := SW.out.below b5
                have C6 : Hid _ := CWr.out w5 S5.out
                obtain ⟨_, _, ee, hi5, hc5⟩ := (HI.out w5 dd S5.out.drop).at hil
                cases ee
                rw [HX.out] at hc5
                clear b5 CB CWr SW S5
                go_wp2_with fail
                refine Calls.mono C6.out ?_
                rintro e w6 ⟨rfl, s6⟩
                have S6 : Hid (Sep B w0 w6 (RunR (.slice va S.length vc) S :: RFile g c d2 :: l)) := s6.up1
                clear C6 s6 hc5
                go_wp2
                go_roundg (ids.length - (i + 1))
                case measure => omega
                case rel => exact ⟨i + 1, d2, by rw [← HZ.out]; go_num, by omega, Nat.le_refl _, S6, EW3, hp2⟩
              · have EW3 : Hid (wrs ids d S = (er, d2)) := by show _ = _; rw [HW.out, EY, if_neg her]
                have HER : Hid (er ≠ 0) := her
                have hne : (er != 0) = true := by rw [bne_iff_ne]; exact her
                clear EY HW her
                have e1 := E1.out
                have e2 := E2.out
                have e3 := E3.out
                clear E1 E2 E3
                go_wp2_with fail
                refine Calls.mono CB.out ?_
                rintro e w5 ⟨rfl, b5⟩
                have S5 : Hid (Sep B w0 w5 (RunR (.slice va S.length vc) S :: RFile g c dd :: l)) := SW.out.below b5
                have C6 : Hid _ := CWr.out w5 S5.out
                obtain ⟨_, _, ee, hi5, hc5⟩ := (HI.out w5 dd S5.out.drop).at hil
                cases ee
                rw [HX.out] at hc5
                clear b5 CB CWr SW S5
                go_wp2_with fail
                refine Calls.mono C6.out ?_
                rintro e w6 ⟨rfl, s6⟩
                have S6 : Hid (Sep B w0 w6 (RunR (.slice va S.length vc) S :: RFile g c d2 :: l)) := s6.up1
                clear C6 s6 hc5
                go_wp2
                go_ret2
                have E9 := EW2.out
                rw [EW3.out, if_neg HER.out] at E9
                cases E9
                exact ⟨rfl, S6.out.drop⟩
        · have hilz : ¬ (i : Int) < (ids.length : Int) := by omega
          obtain rfl : i = ids.length := by omega
          rw [List.drop_length] at HW
          have E2 : Hid (wrs ids d S = (0, dd)) := HW.out
          clear HW
          by_cases hz : ids.length = 0
          · have hzz : ((ids.length : Int) == 0) = true := by simp [hz]
            have hh : Hid (ids.headD 0 = 0) := by show _ = _; rw [List.length_eq_zero_iff.1 hz]; rfl
            go_wp2
            go_ret2
            have E3 := EW2.out
            rw [E2.out, if_pos rfl, hh.out] at E3
            cases E3
            exact ⟨rfl, SR.out.drop⟩
          · have hzz : ((ids.length : Int) == 0) = false := by rw [beq_eq_false_iff_ne]; omega
            have hz0 : (0 : Int) < (ids.length : Int) := by omega
            obtain ⟨ir, io, rfl, hir, hic⟩ := (HI.out wr dd SR.out.drop).at (show 0 < ids.length by omega)
            have hd : Hid (ids.getD 0 0 = ids.headD 0) := (getD_drop ids 0).symm
            generalize ids.getD 0 0 = hd0 at *
            rw [Nat.add_zero] at hic
            go_wp2
            go_ret2
            have E3 := EW2.out
            rw [E2.out, if_pos rfl, ← hd.out] at E3
            cases E3
            exact ⟨rfl, SR.out.drop⟩
end

end Go.Proofs.YtnjnggjbeklmpaaGreatDoor

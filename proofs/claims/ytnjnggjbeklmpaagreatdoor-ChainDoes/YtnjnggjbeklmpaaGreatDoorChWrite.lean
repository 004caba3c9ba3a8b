/-
  The walk of package chain's Write.
-/
import Derived.Test.YtnjnggjbeklmpaaGreatDoorChRow
namespace Go.Proofs.YtnjnggjbeklmpaaGreatDoor
open Go.Shelf Go.RowKit Go.Lib Go.Sort
set_option linter.unusedVariables false

theorem getD_drop (ids : List Int) (i : Nat) : (ids.drop i).headD 0 = ids.getD i 0 := by
  rw [List.headD_eq_head?_getD, List.head?_drop, List.getD_eq_getElem?_getD]
theorem drop_getD {ids : List Int} {i : Nat} (h : i < ids.length) : ids.drop i = ids.getD i 0 :: ids.drop (i + 1) := by
  rw [List.drop_eq_getElem_cons h]; simp [List.getD_eq_getElem?_getD, h]
theorem wrs_no {d : Dk} {s : List Pr} {ids : List Int} {i : Nat} (hi : i < ids.length) (hn : nextB (ids.getD (i + 1) 0) = false) : wrs (ids.drop i) d s = (40, d) := by
  rw [drop_getD hi, wrs, getD_drop, hn, if_neg (by decide)]
theorem wrs_yes {d : Dk} {s : List Pr} {ids : List Int} {i : Nat} (hi : i < ids.length) (hn : nextB (ids.getD (i + 1) 0) = true) : wrs (ids.drop i) d s = if (d.wr (ids.getD i 0) 3 (bodyS (ids.getD (i + 1) 0) (s.take 29))).1 = 0 then wrs (ids.drop (i + 1)) (d.wr (ids.getD i 0) 3 (bodyS (ids.getD (i + 1) 0) (s.take 29))).2 (s.drop 29) else d.wr (ids.getD i 0) 3 (bodyS (ids.getD (i + 1) 0) (s.take 29)) := by
  rw [drop_getD hi, wrs, getD_drop, hn, if_pos rfl]
theorem bodyB_sub {s : List Pr} (h : ∀ r ∈ s, endB r = true) (i : Nat) (n : Int) : bodyB n ((s.drop i).take 29) = nextB n := by
  have := @bodyB_iff n ((s.drop i).take 29)
  cases hn : nextB n with
  | true => exact this.2 ⟨hn, by simp; omega, fun r hr => h r (List.mem_of_mem_drop (List.mem_of_mem_take hr))⟩
  | false =>
    cases hb : bodyB n ((s.drop i).take 29) with
    | false => rfl
    | true => have := (this.1 hb).1; rw [hn] at this; cases this
theorem take_min {s : List Pr} : s.take (min 29 s.length) = s.take 29 := by
  rcases Nat.le_total 29 s.length with h | h
  · rw [Nat.min_eq_left h]
  · rw [Nat.min_eq_right h, List.take_length, List.take_of_length_le h]
theorem drop_min {s : List Pr} : s.drop (min 29 s.length) = s.drop 29 := by
  rcases Nat.le_total 29 s.length with h | h
  · rw [Nat.min_eq_left h]
  · rw [Nat.min_eq_right h, List.drop_length, List.drop_of_length_le h]
theorem ao_off {ao : Option Addr} (h : ao = none ∨ ∃ g o, ao = some ⟨g, o, none⟩) (c k : Nat) : (if c = k then ao else ao.map (·.add (k * 2))) = none ∨ ∃ g o, (if c = k then ao else ao.map (·.add (k * 2))) = some ⟨g, o, none⟩ := by
  by_cases hc : c = k
  · rw [if_pos hc]; exact h
  · rw [if_neg hc]
    rcases h with rfl | ⟨g, o, rfl⟩
    · exact .inl rfl
    · exact .inr ⟨g, o + k * 2, by show some (Addr.add ⟨g, o, none⟩ (k * 2)) = _; rw [Go.WideShapes.add_plain]⟩
theorem ret_ints {a b c d : Int} (h1 : a = b) (h2 : c = d) : Ending.returned (.tuple #[.int .i64 a, .int .i64 c]) = .returned (.tuple #[.int .i64 b, .int .i64 d]) := by rw [h1, h2]
theorem OwnP.shape {base : Nat} {W : World} {v : Value} {l : List Pr} (h : OwnP base W v l) : ∃ ao c, v = .slice ao l.length c ∧ (ao = none ∨ ∃ g o, ao = some ⟨g, o, none⟩) := by
  rcases h.2 with ⟨e, e2⟩ | ⟨g, cap, cur, e, _⟩
  · exact ⟨none, 0, by rw [e, e2], .inl rfl⟩
  · exact ⟨_, _, e, .inr ⟨_, _, rfl⟩⟩

section
variable {B : Nat} {w0 w : World} {f b : Nat} {d : Dk} {l : List Res}
set_option maxHeartbeats 4000000 in
set_option maxRecDepth 100000 in
theorem cwrite_f (NO : NormOk) (T : Tabs B w0) (h : Sep B w0 w (File f b d :: l)) (lv : Value) (L : List Pr) (hL : Row encP 2 w lv L) (ao : Option Addr) (n c : Nat) (ids : List Int) (hI : ∀ u d', Sep B w0 u (File f b d' :: l) → IntRow u (.slice ao n c) ids)
    (hn : ids.length ≤ 10000) (hLl : L.length ≤ 100000) (hp : d.pend.length + ids.length < 100000) :
    Calls Tryz.prog 8 #[ptr f, lv, .slice ao n c] w fun e w' => e = .returned (.tuple #[.int .i64 (d.cw L ids).1.1, .int .i64 (d.cw L ids).1.2]) ∧ Sep B w0 w' (File f b (d.cw L ids).2 :: l) := by
  obtain rfl := (hI w d h).len
  have HI : Hid (∀ u d', Sep B w0 u (File f b d' :: l) → IntRow u (.slice ao ids.length c) ids) := hI
  have HS : Hid (Sep B w0 w (File f b d :: l)) := h
  have CN : Hid _ := NO lv L w hL hLl
  have hSl := nmL_length L
  have HE : Hid (∀ r ∈ nmL L, endB r = true) := cn_endB (nmL_cn L)
  have EW : Hid (d.cw L ids = if (decide (pagesN (nmL L).length ≤ ids.length) && decide ids.Nodup) = true then (if (wrs ids d (nmL L)).1 = 0 then (ids.headD 0, 0) else (0, (wrs ids d (nmL L)).1), (wrs ids d (nmL L)).2) else ((0, 1), d)) := rfl
  generalize d.cw L ids = CW at *
  obtain ⟨⟨r1, r2⟩, r3⟩ := CW
  obtain ⟨la, lc, rfl, _⟩ := hL
  generalize nmL L = S at *
  clear h hI
  go_enter Tryz.func8, Tryz.ntmps8
  go_wp2_with fail
  refine Calls.mono CN.out ?_
  rintro e w1 ⟨v1, rfl, o1, b1⟩
  have S1 : Hid (Sep B w0 w1 (RunR v1 S :: File f b d :: l)) := HS.out.addRun b1 o1
  obtain ⟨va, vc, rfl, hva⟩ := o1.shape
  have HV : Hid (va = none ∨ ∃ g o, va = some ⟨g, o, none⟩) := hva
  have CP : Hid _ := pagesOf_any va S.length vc w1 (by omega)
  have CU : Hid _ := unlike_s S1.out (fun u hu => HI.out u d hu.drop) (by omega)
  clear CN o1 b1 HS hva
  by_cases hpg : (ids.length : Int) < (pagesN S.length : Int)
  · have E : Hid (((r1, r2), r3) = (((0 : Int), (1 : Int)), d)) := by
      show _ = _
      rw [EW.out, if_neg (by rw [decide_eq_false (by omega), Bool.false_and]; decide)]
    clear EW CU
    go_wp2_with fail
    refine Calls.mono CP.out ?_
    rintro e w2 ⟨rfl, rfl⟩
    go_wp2
    go_ret2
    cases E.out
    exact ⟨rfl, S1.out.drop⟩
  · by_cases hnd : ids.Nodup
    · have EW2 : Hid (((r1, r2), r3) = (if (wrs ids d S).1 = 0 then (ids.headD 0, 0) else (0, (wrs ids d S).1), (wrs ids d S).2)) := by
        show _ = _
        rw [EW.out, if_pos (by rw [decide_eq_true (by omega), decide_eq_true hnd]; rfl)]
      rw [decide_eq_true hnd] at CU
      have HP : Hid (S.length ≤ 29 * ids.length) := pages_le (by omega)
      have GV : Hid (∀ u, _) := fun u => given_f (f := f) u
      clear EW hnd
      go_wp2_with fail
      refine Calls.mono CP.out ?_
      rintro e w2 ⟨rfl, rfl⟩
      clear CP
      go_wp2_with fail
      refine Calls.mono CU.out ?_
      rintro e w2 ⟨rfl, s2⟩
      have S2 : Hid (Sep B w0 w2 (RunR (.slice va S.length vc) S :: File f b d :: l)) := s2
      clear CU s2 S1
      go_wp2_with fail
      refine Calls.mono (GV.out w2) ?_
      rintro e w3 ⟨rfl, rfl⟩
      clear GV
      go_wp2
      go_loopg [8, 30] ids.length (fun kx s8 s30 wr => ∃ (i : Nat) (ao' : Option Addr) (n' c' : Nat) (dd : Dk), s8 = .slice ao' n' c' ∧ s30 = .int .i64 i ∧ i ≤ ids.length ∧ ids.length - i ≤ kx ∧ Hid (Sep B w0 wr (RunR (.slice va S.length vc) S :: File f b dd :: l)) ∧
        Hid (∀ u d', Sep B w0 u (RunR (.slice va S.length vc) S :: File f b d' :: l) → Row encP 2 u (.slice ao' n' c') (S.drop (29 * i))) ∧ Hid (ao' = none ∨ ∃ g o, ao' = some ⟨g, o, none⟩) ∧ Hid (wrs ids d S = wrs (ids.drop i) dd (S.drop (29 * i))) ∧ dd.pend.length + ids.length ≤ d.pend.length + ids.length + i)
      case atStart => exact ⟨0, _, _, _, d, rfl, rfl, Nat.zero_le _, Nat.le_refl _, S2, fun u d' hu => hu.run.own.row, HV, rfl, Nat.le_refl _⟩
      case round =>
        obtain ⟨i, ao', n', c', dd, rfl, rfl, hi, hki, SR, HR, HA, HW, hdp⟩ := hrel
        clear S2 HV
        by_cases hil : i < ids.length
        · have hilz : (i : Int) < (ids.length : Int) := by omega
          have SD : Hid (Sep B w0 wr.drew (RunR (.slice va S.length vc) S :: File f b dd :: l)) := SR.out.drew
          have R0 := HR.out _ _ SD.out
          obtain rfl : n' = (S.drop (29 * i)).length := by obtain ⟨_, _, e, _⟩ := R0; cases e; rfl
          have hcap : (S.drop (29 * i)).length ≤ c' := by obtain ⟨_, _, e, h, _⟩ := R0; cases e; exact h
          obtain ⟨ir, io, rfl, hir, hic⟩ := (HI.out wr dd SR.out.drop).at hil
          have CI : Hid _ := idAt_any (HI.out wr.drew dd SD.out.drop) (i + 1) (by omega)
          obtain ⟨k, hk⟩ : ∃ k : Nat, k = min 29 (S.drop (29 * i)).length := ⟨_, rfl⟩
          have hmin : min (29 : Int) ((S.drop (29 * i)).length : Int) = (k : Int) := by omega
          have hkc : k ≤ c' := by omega
          have hkn : k ≤ (S.drop (29 * i)).length := by omega
          have CB : Hid _ := body_any (ids.getD (i + 1) 0) _ _ wr.drew (R0.sub k hkn) (by rw [List.length_take]; omega)
          have HN : Hid (∀ u d', Sep B w0 u (RunR (.slice va S.length vc) S :: File f b d' :: l) → Row encP 2 u (.slice (if c' = k then ao' else ao'.map (·.add (k * 2))) ((S.drop (29 * i)).length - k) (c' - k)) (S.drop (29 * (i + 1)))) := fun u d' hu => by
            have := (HR.out u d' hu).off k hkn
            rw [hk, drop_min, List.drop_drop, ← hk] at this
            rw [show 29 * (i + 1) = 29 * i + 29 by omega]
            exact this
          have HA2 := ao_off HA.out c' k
          have hs1 := run_sub ao' (S.drop (29 * i)).length c' k hkc HA.out
          have hs2 := run_off ao' (S.drop (29 * i)).length c' k hkn
          rw [show (S.drop (29 * i)).take k = (S.drop (29 * i)).take 29 by rw [hk, take_min], show bodyT (ids.getD (i + 1) 0) ((S.drop (29 * i)).take 29) = (bodyS (ids.getD (i + 1) 0) ((S.drop (29 * i)).take 29)).data.toList from rfl, show bodyE (ids.getD (i + 1) 0) ((S.drop (29 * i)).take 29) = if nextB (ids.getD (i + 1) 0) = true then 0 else 1 by unfold bodyE; rw [bodyB_sub HE.out]] at CB
          have WI : Hid (IntKind.i64.wrap ((i : Int) + 1) = (i : Int) + 1) := by show _ = _; rw [IntKind.wrap_i64]; omega
          rw [show ((i + 1 : Nat) : Int) = IntKind.i64.wrap ((i : Int) + 1) by rw [WI.out]; omega] at CI
          have HDP : Hid (dd.pend.length + ids.length ≤ d.pend.length + ids.length + i) := hdp
          cases hnx : nextB (ids.getD (i + 1) 0) with
          | false =>
            have E : Hid (wrs ids d S = (40, dd)) := by show _ = _; rw [HW.out, wrs_no hil hnx]
            rw [hnx, if_neg (by decide)] at CB
            clear HW HR hnx HA HA2 hs2 HN R0 hk HDP hdp
            generalize ids.getD (i + 1) 0 = nx at *
            generalize (bodyS nx ((S.drop (29 * i)).take 29)).data.toList.toArray = bs at *
            generalize (S.drop (29 * i)).length = n' at *
            go_wp2_with fail
            go_region_held3 (fun _ => True) (trivial) ((first | (go_at_call 27; refine Calls.mono CI.out ?_; rintro e wy ⟨rfl, rfl⟩) | (go_at_call 18; refine Calls.mono CB.out ?_; rintro e wy ⟨rfl, by5⟩; have SX : Hid (Sep B w0 wy (RunR (.slice va S.length vc) S :: File f b dd :: l)) := SD.out.below by5; clear by5)))
            all_goals
              have S5 : Hid (Sep B w0 wy (RunR (.slice va S.length vc) S :: File f b dd :: l)) := SX.out
              clear SX SR SD CI CB
              go_wp2
              go_ret2
              have E3 := EW2.out
              rw [E.out, if_neg (show (40 : Int) ≠ 0 by decide)] at E3
              cases E3
              exact ⟨rfl, S5.out.drop⟩
          | true =>
            have EY := wrs_yes (d := dd) (s := S.drop (29 * i)) hil hnx
            rw [List.drop_drop, show 29 * i + 29 = 29 * (i + 1) by omega] at EY
            rw [hnx, if_pos rfl] at CB
            have hbz := bodyS_size (ids.getD (i + 1) 0) ((S.drop (29 * i)).take 29)
            have CWr : Hid (∀ u, Sep B w0 u (RunR (.slice va S.length vc) S :: File f b dd :: l) → _) := fun u hu => write_f T hu.up1 (ids.getD i 0) 3 (bodyS (ids.getD (i + 1) 0) ((S.drop (29 * i)).take 29)) (by unfold maxLen; omega) (by omega)
            rw [show ((3 : UInt8).toNat : Int) = 3 from rfl] at CWr
            have hps := (dd.wr_sure (ids.getD i 0) 3 (bodyS (ids.getD (i + 1) 0) ((S.drop (29 * i)).take 29))).2
            rw [show (⟨(bodyS (ids.getD (i + 1) 0) ((S.drop (29 * i)).take 29)).data.toList.toArray⟩ : ByteArray) = bodyS (ids.getD (i + 1) 0) ((S.drop (29 * i)).take 29) from rfl] at CB
            clear hnx hbz HR HA R0 hk
            generalize bodyS (ids.getD (i + 1) 0) ((S.drop (29 * i)).take 29) = bs at *
            generalize ids.getD (i + 1) 0 = nx at *
            generalize ids.getD i 0 = id at *
            generalize dd.wr id 3 bs = dw at *
            obtain ⟨er, d2⟩ := dw
            dsimp only at EY CWr hps
            generalize (S.drop (29 * i)).length = n' at *
            by_cases her : er = 0
            · subst her
              have E2 : Hid (wrs ids d S = wrs (ids.drop (i + 1)) d2 (S.drop (29 * (i + 1)))) := by show _ = _; rw [HW.out, EY, if_pos rfl]
              have HA3 : Hid _ := HA2
              clear EY HW HA2
              have hp2 : d2.pend.length + ids.length ≤ d.pend.length + ids.length + (i + 1) := by omega
              clear hps HDP hdp
              generalize (if c' = k then ao' else ao'.map (·.add (k * 2))) = ao2 at *
              go_wp2_with fail
              go_region_held3 (fun _ => True) (trivial) ((first | (go_at_call 27; refine Calls.mono CI.out ?_; rintro e wy ⟨rfl, rfl⟩) | (go_at_call 18; refine Calls.mono CB.out ?_; rintro e wy ⟨rfl, by5⟩; have SX : Hid (Sep B w0 wy (RunR (.slice va S.length vc) S :: File f b dd :: l)) := SD.out.below by5; clear by5)))
              all_goals
                have C6 : Hid _ := CWr.out wy SX.out
                clear SX SR SD CI CB CWr
                go_wp2_with fail
                refine Calls.mono C6.out ?_
                rintro e w6 ⟨rfl, s6⟩
                have S6 : Hid (Sep B w0 w6 (RunR (.slice va S.length vc) S :: File f b d2 :: l)) := s6.up1
                clear C6 s6
                go_wp2
                go_roundg (ids.length - (i + 1))
              case measure => omega
              case rel => exact ⟨i + 1, ao2, _, _, d2, rfl, by go_num, by omega, Nat.le_refl _, S6, HN, HA3, E2, hp2⟩
            · have E2 : Hid (wrs ids d S = (er, d2)) := by show _ = _; rw [HW.out, EY, if_neg her]
              have HER : Hid (er ≠ 0) := her
              have hne : (er != 0) = true := by rw [bne_iff_ne]; exact her
              clear EY HW HA2 her hps HDP hdp HN hs2
              go_wp2_with fail
              go_region_held3 (fun _ => True) (trivial) ((first | (go_at_call 27; refine Calls.mono CI.out ?_; rintro e wy ⟨rfl, rfl⟩) | (go_at_call 18; refine Calls.mono CB.out ?_; rintro e wy ⟨rfl, by5⟩; have SX : Hid (Sep B w0 wy (RunR (.slice va S.length vc) S :: File f b dd :: l)) := SD.out.below by5; clear by5)))
              all_goals
                have C6 : Hid _ := CWr.out wy SX.out
                clear SX SR SD CI CB CWr
                go_wp2_with fail
                refine Calls.mono C6.out ?_
                rintro e w6 ⟨rfl, s6⟩
                have S6 : Hid (Sep B w0 w6 (File f b d2 :: l)) := s6.up1.drop
                clear C6 s6
                go_wp2
                go_ret2
                have E3 := EW2.out
                rw [E2.out, if_neg HER.out] at E3
                cases E3
                exact ⟨rfl, S6.out⟩
        · have hilz : ¬ (i : Int) < (ids.length : Int) := by omega
          obtain rfl : i = ids.length := by omega
          rw [List.drop_length] at HW
          have E2 : Hid (wrs ids d S = (0, dd)) := HW.out
          have CI : Hid _ := idAt_any (HI.out wr dd SR.out.drop) 0 (by omega)
          have hd : Hid (ids.getD 0 0 = ids.headD 0) := (getD_drop ids 0).symm
          generalize ids.getD 0 0 = hd0 at *
          clear HW HR HA
          go_wp2_with fail
          refine Calls.mono CI.out ?_
          rintro e w5 ⟨rfl, rfl⟩
          clear CI
          go_wp2
          go_ret2
          have E3 := EW2.out
          rw [E2.out, if_pos rfl, ← hd.out] at E3
          cases E3
          exact ⟨rfl, SR.out.drop⟩
    · have E : Hid (((r1, r2), r3) = (((0 : Int), (1 : Int)), d)) := by
        show _ = _
        rw [EW.out, if_neg (by rw [decide_eq_false hnd, Bool.and_false]; decide)]
      rw [decide_eq_false hnd] at CU
      clear EW hnd
      go_wp2_with fail
      refine Calls.mono CP.out ?_
      rintro e w2 ⟨rfl, rfl⟩
      clear CP
      go_wp2_with fail
      refine Calls.mono CU.out ?_
      rintro e w2 ⟨rfl, s2⟩
      have S2 : Hid (Sep B w0 w2 (RunR (.slice va S.length vc) S :: File f b d :: l)) := s2
      clear CU s2 S1
      go_wp2
      go_ret2
      cases E.out
      exact ⟨rfl, S2.out.drop⟩
end

end Go.Proofs.YtnjnggjbeklmpaaGreatDoor

/-
  The walk of ChainOver.
-/
import Derived.Test.YtnjnggjbeklmpaaDoorChLaw
namespace Go.Proofs.YtnjnggjbeklmpaaDoor
open Go.Shelf Go.RowKit Go.Lib Go.Sort
set_option linter.unusedVariables false

def evL (n : Nat) : List Int := (List.range n).map fun i : Nat => 2 + 2 * (i : Int)
def odL (n : Nat) : List Int := (List.range n).map fun i : Nat => 3 + 2 * (i : Int)
theorem evL_succ (n : Nat) : evL (n + 1) = evL n ++ [2 + 2 * (n : Int)] := by simp [evL, List.range_succ]
theorem odL_succ (n : Nat) : odL (n + 1) = odL n ++ [3 + 2 * (n : Int)] := by simp [odL, List.range_succ]
theorem evL_length (n : Nat) : (evL n).length = n := by simp [evL]
theorem odL_length (n : Nat) : (odL n).length = n := by simp [odL]
theorem evL_mem {n : Nat} {x : Int} (h : x ∈ evL n) : ∃ i : Nat, i < n ∧ x = 2 + 2 * (i : Int) := by
  obtain ⟨i, hi, rfl⟩ := List.mem_map.1 h
  exact ⟨i, List.mem_range.1 hi, rfl⟩
theorem odL_mem {n : Nat} {x : Int} (h : x ∈ odL n) : ∃ i : Nat, i < n ∧ x = 3 + 2 * (i : Int) := by
  obtain ⟨i, hi, rfl⟩ := List.mem_map.1 h
  exact ⟨i, List.mem_range.1 hi, rfl⟩
theorem evL_nodup : ∀ n, (evL n).Nodup
  | 0 => List.nodup_nil
  | n + 1 => by
    rw [evL_succ, nodup_snoc]
    refine ⟨evL_nodup n, fun h => ?_⟩
    obtain ⟨i, hi, e⟩ := evL_mem h
    omega
theorem odL_nodup : ∀ n, (odL n).Nodup
  | 0 => List.nodup_nil
  | n + 1 => by
    rw [odL_succ, nodup_snoc]
    refine ⟨odL_nodup n, fun h => ?_⟩
    obtain ⟨i, hi, e⟩ := odL_mem h
    omega
theorem evL_in {n : Nat} (hn : n ≤ 15) : ∀ id ∈ evL n, 2 ≤ id ∧ id < ((40 : Nat) : Int) := fun id h => by
  obtain ⟨i, hi, e⟩ := evL_mem h
  omega
theorem odL_in {n : Nat} (hn : n ≤ 15) : ∀ id ∈ odL n, 2 ≤ id ∧ id < ((40 : Nat) : Int) := fun id h => by
  obtain ⟨i, hi, e⟩ := odL_mem h
  omega
/-- What two writes into pages that are apart leave. -/
theorem over_plain (a b : List Pr) (n m : Nat) (hn : n ≤ 15) (hm : m ≤ 15) : ∃ e g x y d2, ((Dk.new 40).cw a (evL n)).1 = (x, e) ∧ (((Dk.new 40).cw a (evL n)).2.cw b (odL m)).1 = (y, g) ∧ (((Dk.new 40).cw a (evL n)).2.cw b (odL m)).2 = d2 ∧ Up 40 d2 ∧ (e = 0 ∨ e = 1) ∧ (g = 0 ∨ g = 1) ∧ d2.pend.length ≤ 30 ∧ ((Dk.new 40).cw a (evL n)).2.pend.length ≤ 15 ∧ Up 40 ((Dk.new 40).cw a (evL n)).2 ∧
    (e = 0 → g = 0 → ∃ d3, d2.cr x = ((nmL a, evL n, 0), d3) ∧ Up 40 d3 ∧ ∃ d4, d3.cr y = ((nmL b, odL m, 0), d4)) := by
  have U0 : Up 40 (Dk.new 40) := Up.new 40 (by decide)
  obtain ⟨w1, w2, w3, w4, w5, w6, w7⟩ := wrs_ok (n := 40) (by decide) (evL n) (Dk.new 40) (nmL a) U0 (evL_nodup n) (evL_in hn) (Int.le_refl _) (by rw [evL_length]; show (0 : Int) + n ≤ 1000000; omega)
  have p0 : (Dk.new 40).pend.length = 0 := rfl
  have k0 : (Dk.new 40).writes = 0 := rfl
  rw [k0] at w5
  rw [p0] at w7
  -- the disk behind the first write
  have H1 : ∃ x e d1, ((Dk.new 40).cw a (evL n)) = ((x, e), d1) ∧ Up 40 d1 ∧ (e = 0 ∨ e = 1) ∧ 0 ≤ d1.writes ∧ d1.writes ≤ 15 ∧ d1.pend.length ≤ 15 ∧ (e = 0 → x = (evL n).headD 0 ∧ Chained d1 (evL n) (nmL a) ∧ (nmL a).length ≤ 29 * n) := by
    unfold Dk.cw
    by_cases hok : wrOk a (evL n) = true
    · rw [if_pos hok, if_pos w1]
      refine ⟨_, _, _, rfl, w2, .inl rfl, by omega, by rw [w5, evL_length]; omega, by rw [w7, evL_length]; omega, fun _ => ⟨rfl, w3, ?_⟩⟩
      have h1 := of_decide_eq_true (Bool.and_eq_true _ _ ▸ hok).1
      rw [evL_length] at h1
      exact pages_le (by omega)
    · rw [if_neg hok]
      exact ⟨_, _, _, rfl, U0, .inr rfl, Int.le_refl _, by show (0 : Int) ≤ 15; omega, by show 0 ≤ 15; omega, fun h => absurd h (by decide)⟩
  obtain ⟨x, e, d1, E1, U1, he, hw0, hw1, hp1, hc1⟩ := H1
  rw [E1]
  dsimp only
  obtain ⟨v1, v2, v3, v4, v5, v6, v7⟩ := wrs_ok (n := 40) (by decide) (odL m) d1 (nmL b) U1 (odL_nodup m) (odL_in hm) hw0 (by rw [odL_length]; omega)
  have H2 : ∃ y g d2, (d1.cw b (odL m)) = ((y, g), d2) ∧ Up 40 d2 ∧ (g = 0 ∨ g = 1) ∧ d2.pend.length ≤ 30 ∧ (∀ j : Nat, (j : Int) ∉ odL m → d2.now j = d1.now j) ∧ (g = 0 → y = (odL m).headD 0 ∧ Chained d2 (odL m) (nmL b) ∧ (nmL b).length ≤ 29 * m) := by
    unfold Dk.cw
    by_cases hok : wrOk b (odL m) = true
    · rw [if_pos hok, if_pos v1]
      refine ⟨_, _, _, rfl, v2, .inl rfl, by rw [v7, odL_length]; omega, v4, fun _ => ⟨rfl, v3, ?_⟩⟩
      have h1 := of_decide_eq_true (Bool.and_eq_true _ _ ▸ hok).1
      rw [odL_length] at h1
      exact pages_le (by omega)
    · rw [if_neg hok]
      exact ⟨_, _, _, rfl, U1, .inr rfl, by omega, fun _ _ => rfl, fun h => absurd h (by decide)⟩
  obtain ⟨y, g, d2, E2, U2, hg, hp2, hnow, hc2⟩ := H2
  refine ⟨e, g, x, y, d2, rfl, by rw [E2], by rw [E2], U2, he, hg, hp2, hp1, U1, fun e0 g0 => ?_⟩
  obtain ⟨hx, c1, l1⟩ := hc1 e0
  obtain ⟨hy, c2, l2⟩ := hc2 g0
  have c1' : Chained d2 (evL n) (nmL a) := c1.congr (by rw [U2.sl, U1.sl]) (fun id hid => hnow _ (fun hc => by
    obtain ⟨i, _, e1⟩ := evL_mem hid
    obtain ⟨j, _, e2⟩ := odL_mem hc
    omega))
  obtain ⟨d3, r1, r2, r3⟩ := cr_chain (by decide) U2 c1' (evL_nodup n) (evL_in hn) (nmL_cn a) (by rw [evL_length]; exact l1)
  obtain ⟨d4, q1, _, _⟩ := cr_chain (by decide) r2 (c2.congr (by rw [U2.sl, r2.sl]) (fun id _ => r3 _)) (odL_nodup m) (odL_in hm) (nmL_cn b) (by rw [odL_length]; exact l2)
  exact ⟨d3, by rw [hx]; exact r1, r2, d4, by rw [hy]; exact q1⟩

set_option maxHeartbeats 4000000 in
set_option maxRecDepth 100000 in
theorem chainOver (av : Value) (a : List Pr) (bv : Value) (b : List Pr) (n m : Int) (w : World) (T : Tab w) (hA : Row encP 2 w av a) (hB : Row encP 2 w bv b) (hn : -9223372036854775808 ≤ n ∧ n ≤ 9223372036854775807) (hm : -9223372036854775808 ≤ m ∧ m ≤ 9223372036854775807) :
    Calls Tryd.prog 5 #[av, bv, .int .i64 n, .int .i64 m] w fun e w' => e = .returned (.bool true) ∧ Below w.heap.size w w' := by
  obtain ⟨aa, ca, rfl, _⟩ := id hA
  obtain ⟨ba, cb, rfl, _⟩ := id hB
  have HA : Aside (Row encP 2 w (.slice aa a.length ca) a) := hA
  have HB : Aside (Row encP 2 w (.slice ba b.length cb) b) := hB
  have TT : Hid (Tabs w.heap.size w) := tabs_of T
  have CW : Hid _ := works_any w
  clear hA hB T hn hm
  rcases Classical.em ((100 : Int) < a.length) with h0 | h0
  · go_enter Tryd.func5, Tryd.ntmps5
    go_wp2_with fail
    refine Calls.mono CW.out ?_
    rintro e w1 ⟨rfl, b1⟩
    have B1 : Hid (Below w.heap.size w w1) := b1
    clear b1 CW
    go_wp2
    go_ret
    exact ⟨rfl, B1.out⟩
  rcases Classical.em ((100 : Int) < b.length) with h1 | h1
  · go_enter Tryd.func5, Tryd.ntmps5
    go_wp2_with fail
    refine Calls.mono CW.out ?_
    rintro e w1 ⟨rfl, b1⟩
    have B1 : Hid (Below w.heap.size w w1) := b1
    clear b1 CW
    go_wp2
    go_ret
    exact ⟨rfl, B1.out⟩
  rcases Classical.em (n < 0) with h2 | h2
  · go_enter Tryd.func5, Tryd.ntmps5
    go_wp2_with fail
    refine Calls.mono CW.out ?_
    rintro e w1 ⟨rfl, b1⟩
    have B1 : Hid (Below w.heap.size w w1) := b1
    clear b1 CW
    go_wp2
    go_ret
    exact ⟨rfl, B1.out⟩
  rcases Classical.em (m < 0) with h3 | h3
  · go_enter Tryd.func5, Tryd.ntmps5
    go_wp2_with fail
    refine Calls.mono CW.out ?_
    rintro e w1 ⟨rfl, b1⟩
    have B1 : Hid (Below w.heap.size w w1) := b1
    clear b1 CW
    go_wp2
    go_ret
    exact ⟨rfl, B1.out⟩
  rcases Classical.em (15 < n) with h4 | h4
  · go_enter Tryd.func5, Tryd.ntmps5
    go_wp2_with fail
    refine Calls.mono CW.out ?_
    rintro e w1 ⟨rfl, b1⟩
    have B1 : Hid (Below w.heap.size w w1) := b1
    clear b1 CW
    go_wp2
    go_ret
    exact ⟨rfl, B1.out⟩
  rcases Classical.em (15 < m) with h5 | h5
  · go_enter Tryd.func5, Tryd.ntmps5
    go_wp2_with fail
    refine Calls.mono CW.out ?_
    rintro e w1 ⟨rfl, b1⟩
    have B1 : Hid (Below w.heap.size w w1) := b1
    clear b1 CW
    go_wp2
    go_ret
    exact ⟨rfl, B1.out⟩
  obtain ⟨n, rfl⟩ : ∃ k : Nat, n = k := ⟨n.toNat, by omega⟩
  obtain ⟨m, rfl⟩ : ∃ k : Nat, m = k := ⟨m.toNat, by omega⟩
  obtain ⟨e, g, x, y, d2, E1, E2, E3, U2, he, hg, hp2, hp1, U1, hfin⟩ := over_plain a b n m (by omega) (by omega)
  have HF : Hid _ := hfin
  have P1 : Hid (((Dk.new 40).cw a (evL n)).1 = (x, e)) := E1
  have P2 : Hid ((((Dk.new 40).cw a (evL n)).2.cw b (odL m)).1 = (y, g)) := E2
  have P3 : Hid ((((Dk.new 40).cw a (evL n)).2.cw b (odL m)).2 = d2) := E3
  have W1 : Hid (Up 40 ((Dk.new 40).cw a (evL n)).2 ∧ ((Dk.new 40).cw a (evL n)).2.pend.length ≤ 15 ∧ Up 40 d2 ∧ d2.pend.length ≤ 30) := ⟨U1, hp1, U2, hp2⟩
  clear hfin E1 E2 E3 U1 hp1 U2 hp2
  go_enter Tryd.func5, Tryd.ntmps5
  go_wp2_with fail
  refine Calls.mono CW.out ?_
  rintro e' w1 ⟨rfl, b1⟩
  have S1 : Hid (Sep w.heap.size w w1 []) := Sep.nil b1.size b1
  clear b1 CW
  have CD : Hid _ := new_s 40 S1.out
  go_wp2_with fail
  refine Calls.mono CD.out ?_
  rintro e' w2 ⟨bb, rfl, s2⟩
  have CF : Hid _ := new_f s2
  generalize hd0 : Dk.new 40 = d0 at *
  have D0 : Hid (d0.pend.length = 0) := by show _ = _; rw [← hd0]; rfl
  clear CD S1 s2 hd0
  go_wp2_with fail
  refine Calls.mono CF.out ?_
  rintro e' w3 ⟨f, rfl, s3⟩
  have S3 : Hid (Sep w.heap.size w w3 [RowR 3 (.slice none 0 0) ((evL 0).map (Value.int .i64)), File f bb d0]) := s3.addNil 3
  clear CF s3
  go_wp2
  go_loopg [11, 13] n (fun kx s11 s13 wr => ∃ (i : Nat) (ao' : Option Addr) (n' c' : Nat), s11 = .slice ao' n' c' ∧ s13 = .int .i64 i ∧ i ≤ n ∧ n - i ≤ kx ∧ Hid (Sep w.heap.size w wr [RowR 3 (.slice ao' n' c') ((evL i).map (Value.int .i64)), File f bb d0]))
  case atStart => exact ⟨0, none, 0, 0, rfl, rfl, Nat.zero_le _, Nat.le_refl _, S3⟩
  case round =>
    obtain ⟨i, ao', n', c', rfl, rfl, hi, hki, SR⟩ := hrel
    clear S3
    by_cases hil : i < n
    · have hilz : (i : Int) < (n : Int) := by omega
      have e1 : wrap64 (2 * (i : Int)) = 2 * (i : Int) := by unfold wrap64; omega
      have e2 : wrap64 (2 + 2 * (i : Int)) = 2 + 2 * (i : Int) := by unfold wrap64; omega
      have hln : ((evL i).map (Value.int .i64)).length < 100000 := by rw [List.length_map, evL_length]; omega
      have EV : Hid ((evL i).map (Value.int .i64) ++ [.int .i64 (2 + 2 * (i : Int))] = (evL (i + 1)).map (Value.int .i64)) := by show _ = _; rw [evL_succ, List.map_append]; rfl
      go_wp2_with (at_builtin; refine app_int rfl _ _ rfl _ _ rfl (SR.out.alloc _) _ _ (2 + 2 * (i : Int)) rfl (by simp) hln ?_)
      intro ao2 n2 c2 w5 s5
      have S5 : Hid (Sep w.heap.size w w5 [RowR 3 (.slice ao2 n2 c2) ((evL (i + 1)).map (Value.int .i64)), File f bb d0]) := by show Sep _ _ _ _; rw [← EV.out]; exact s5
      clear s5 SR EV
      go_wp2
      go_roundg (n - (i + 1))
      case measure => omega
      case rel => exact ⟨i + 1, ao2, n2, c2, rfl, by go_num, by omega, Nat.le_refl _, S5⟩
    · have hilz : ¬ (i : Int) < (n : Int) := by omega
      obtain rfl : i = n := by omega
      have S3 : Hid (Sep w.heap.size w wr [RowR 3 (.slice none 0 0) ((odL 0).map (Value.int .i64)), RowR 3 (.slice ao' n' c') ((evL i).map (Value.int .i64)), File f bb d0]) := SR.out.addNil 3
      clear SR
      go_wp2
      go_loopg [12, 14] m (fun kx s12 s14 wr2 => ∃ (j : Nat) (bo' : Option Addr) (m' e2' : Nat), s12 = .slice bo' m' e2' ∧ s14 = .int .i64 j ∧ j ≤ m ∧ m - j ≤ kx ∧ Hid (Sep w.heap.size w wr2 [RowR 3 (.slice bo' m' e2') ((odL j).map (Value.int .i64)), RowR 3 (.slice ao' n' c') ((evL i).map (Value.int .i64)), File f bb d0]))
      case atStart => exact ⟨0, none, 0, 0, rfl, rfl, Nat.zero_le _, Nat.le_refl _, S3⟩
      case round =>
        obtain ⟨j, bo', m', e2', rfl, rfl, hj, hkj, SR⟩ := hrel
        clear S3
        by_cases hjl : j < m
        · have hjlz : (j : Int) < (m : Int) := by omega
          have e1 : wrap64 (2 * (j : Int)) = 2 * (j : Int) := by unfold wrap64; omega
          have e2 : wrap64 (3 + 2 * (j : Int)) = 3 + 2 * (j : Int) := by unfold wrap64; omega
          have hln : ((odL j).map (Value.int .i64)).length < 100000 := by rw [List.length_map, odL_length]; omega
          have EV : Hid ((odL j).map (Value.int .i64) ++ [.int .i64 (3 + 2 * (j : Int))] = (odL (j + 1)).map (Value.int .i64)) := by show _ = _; rw [odL_succ, List.map_append]; rfl
          go_wp2_with (at_builtin; refine app_int rfl _ _ rfl _ _ rfl (SR.out.alloc _) _ _ (3 + 2 * (j : Int)) rfl (by simp) hln ?_)
          intro ao2 n2 c2 w5 s5
          have S5 : Hid (Sep w.heap.size w w5 [RowR 3 (.slice ao2 n2 c2) ((odL (j + 1)).map (Value.int .i64)), RowR 3 (.slice ao' n' c') ((evL i).map (Value.int .i64)), File f bb d0]) := by show Sep _ _ _ _; rw [← EV.out]; exact s5
          clear s5 SR EV
          go_wp2
          go_roundg (m - (j + 1))
          case measure => omega
          case rel => exact ⟨j + 1, ao2, n2, c2, rfl, by go_num, by omega, Nat.le_refl _, S5⟩
        · have hjlz : ¬ (j : Int) < (m : Int) := by omega
          obtain rfl : j = m := by omega
          have C1 : Hid _ := cwrite_f normOk TT.out SR.out.up2 (.slice aa a.length ca) a (HA.out.below SR.out.bel) ao' n' c' (evL i) (fun u d' hu => hu.up2.introw) (by rw [evL_length]; omega) (by omega) (by rw [D0.out, evL_length]; omega)
          rw [P1.out] at C1
          dsimp only at C1
          obtain ⟨U1, hp1, U2, hp2⟩ := W1.out
          have C2 : Hid (∀ u, Sep w.heap.size w u (File f bb (d0.cw a (evL i)).2 :: [RowR 3 (.slice bo' m' e2') ((odL j).map (Value.int .i64)), RowR 3 (.slice ao' n' c') ((evL i).map (Value.int .i64))]) → _) := fun u hu => cwrite_f normOk TT.out hu (.slice ba b.length cb) b (HB.out.below hu.bel) bo' m' e2' (odL j) (fun u d' hu => hu.up1.introw) (by rw [odL_length]; omega) (by omega) (by rw [odL_length]; omega)
          rw [P2.out, P3.out] at C2
          dsimp only at C2
          generalize (d0.cw a (evL i)).2 = d1 at *
          have U2' : Hid (d2.sure.length ≤ 1000) := by show _ ≤ _; rw [U2.sl]; omega
          clear W1 P1 P2 P3 SR U1 hp1 U2 hp2
          go_wp2_with fail
          refine Calls.mono C1.out ?_
          rintro e' w4 ⟨rfl, s4⟩
          have C2' : Hid _ := C2.out w4 s4
          clear C1 C2 s4
          go_wp2_with fail
          refine Calls.mono C2'.out ?_
          rintro e' w5 ⟨rfl, s5⟩
          have S5 : Hid (Sep w.heap.size w w5 (File f bb d2 :: [RowR 3 (.slice bo' m' e2') ((odL j).map (Value.int .i64)), RowR 3 (.slice ao' n' c') ((evL i).map (Value.int .i64))])) := s5
          clear C2' s5
          rcases he with rfl | rfl
          · rcases hg with rfl | rfl
            · obtain ⟨d3, R1, U3, d4, R2⟩ := HF.out rfl rfl
              have C3 : Hid _ := cread_f normOk TT.out S5.out x U2'.out
              rw [R1] at C3
              dsimp only at C3
              clear HF
              go_wp2_with fail
              refine Calls.mono C3.out ?_
              rintro e' w6 ⟨a1, n1, c1, a2, n2, c2, rfl, s6⟩
              have C4 : Hid _ := cread_f normOk TT.out s6.up2 y (by rw [U3.sl]; omega)
              rw [R2] at C4
              dsimp only at C4
              clear C3 s6 S5 R1 R2 U3
              go_wp2_with fail
              refine Calls.mono C4.out ?_
              rintro e' w7 ⟨a3, n3, c3, a4, n4, c4, rfl, s7⟩
              have S7 : Hid (Sep w.heap.size w w7 (RunR (.slice a3 n3 c3) (nmL b) :: RowR 3 (.slice a4 n4 c4) ((odL j).map (Value.int .i64)) :: File f bb d4 :: RunR (.slice a1 n1 c1) (nmL a) :: RowR 3 (.slice a2 n2 c2) ((evL i).map (Value.int .i64)) :: [RowR 3 (.slice bo' m' e2') ((odL j).map (Value.int .i64)), RowR 3 (.slice ao' n' c') ((evL i).map (Value.int .i64))])) := s7
              clear C4 s7
              have hla := nmL_length a
              have hlb := nmL_length b
              have C5 : Hid _ := norm_any (.slice aa a.length ca) a w7 (HA.out.below S7.out.bel) (by omega)
              go_wp2_with fail
              refine Calls.mono C5.out ?_
              rintro e' w8 ⟨v8, rfl, o8, b8⟩
              have S8 : Hid (Sep w.heap.size w w8 _) := S7.out.below b8
              have C6 : Hid _ := same_any _ v8 (nmL a) (nmL a) w8 (Sep.run (Sep.up3 S8.out)).own.row o8.row (by omega) (by omega)
              rw [decide_eq_true rfl] at C6
              clear C5 o8 b8 S7
              go_wp2_with fail
              refine Calls.mono C6.out ?_
              rintro e' w9 ⟨rfl, b9⟩
              have S9 : Hid (Sep w.heap.size w w9 _) := Sep.below S8.out b9
              have C7 : Hid _ := sameI_any (.slice a2 n2 c2) (.slice ao' n' c') (evL i) (evL i) w9 (Sep.introw (Sep.up4 S9.out)) (Sep.introw ((show Sep w.heap.size w w9 ([_, _, _, _, _, _] ++ _ :: []) from S9.out).perm List.perm_middle)) (by rw [evL_length]; omega) (by rw [evL_length]; omega)
              rw [decide_eq_true rfl] at C7
              clear C6 b9 S8
              go_wp2_with fail
              refine Calls.mono C7.out ?_
              rintro e' w10 ⟨rfl, b10⟩
              have S10 : Hid (Sep w.heap.size w w10 _) := Sep.below S9.out b10
              have C8 : Hid _ := norm_any (.slice ba b.length cb) b w10 (HB.out.below (Sep.bel S10.out)) (by omega)
              clear C7 b10 S9
              go_wp2_with fail
              refine Calls.mono C8.out ?_
              rintro e' w11 ⟨v11, rfl, o11, b11⟩
              have S11 : Hid (Sep w.heap.size w w11 _) := Sep.below S10.out b11
              have C9 : Hid _ := same_any _ v11 (nmL b) (nmL b) w11 (Sep.run S11.out).own.row o11.row (by omega) (by omega)
              rw [decide_eq_true rfl] at C9
              clear C8 o11 b11 S10
              go_wp2_with fail
              refine Calls.mono C9.out ?_
              rintro e' w12 ⟨rfl, b12⟩
              have S12 : Hid (Sep w.heap.size w w12 _) := Sep.below S11.out b12
              have C10 : Hid _ := sameI_any (.slice a4 n4 c4) (.slice bo' m' e2') (odL j) (odL j) w12 (Sep.introw (Sep.up1 S12.out)) (Sep.introw ((show Sep w.heap.size w w12 ([_, _, _, _, _] ++ _ :: [_]) from S12.out).perm List.perm_middle)) (by rw [odL_length]; omega) (by rw [odL_length]; omega)
              rw [decide_eq_true rfl] at C10
              clear C9 b12 S11
              go_wp2_with fail
              refine Calls.mono C10.out ?_
              rintro e' w13 ⟨rfl, b13⟩
              have B13 : Hid (Below w.heap.size w w13) := (Sep.bel (Sep.below S12.out b13))
              clear C10 b13 S12
              go_wp2
              go_ret
              exact ⟨rfl, B13.out⟩
            · have B5 : Hid (Below w.heap.size w w5) := S5.out.bel
              clear S5 HF
              go_wp2
              go_ret
              exact ⟨rfl, B5.out⟩
          · rcases hg with rfl | rfl
            · have B5 : Hid (Below w.heap.size w w5) := S5.out.bel
              clear S5 HF
              go_wp2
              go_ret
              exact ⟨rfl, B5.out⟩
            · have B5 : Hid (Below w.heap.size w w5) := S5.out.bel
              clear S5 HF
              go_wp2
              go_ret
              exact ⟨rfl, B5.out⟩

end Go.Proofs.YtnjnggjbeklmpaaDoor

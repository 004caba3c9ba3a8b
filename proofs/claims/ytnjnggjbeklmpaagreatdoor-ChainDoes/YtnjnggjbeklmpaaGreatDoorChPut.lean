/-
  The document's Put and Norm: what they answer is a row of their own, or the one that they were given.
-/
import Derived.Test.YtnjnggjbeklmpaaGreatDoorBRunsA
import Derived.Test.YtnjnggjbeklmpaaGreatDoorChWrite
namespace Go.Proofs.YtnjnggjbeklmpaaGreatDoor
open Go.Shelf Go.RowKit Go.Lib Go.Sort
set_option linter.unusedVariables false

theorem OwnP.below' {base : Nat} {w w' : World} {v : Value} {l : List Pr} (h : OwnP base w v l) (hb : Below w.heap.size w w') : OwnP base w' v l := by
  refine ownsRow_kept' h fun k hk => ?_
  have := (h.lt k hk).2
  exact hb.block k this

set_option maxHeartbeats 4000000 in
set_option maxRecDepth 100000 in
theorem rput_own (v : Value) (l : List Pr) (x : Pr) (w : World) (h : Row encP 2 w v l) (hl : l.length ≤ 50000) (hc : Cn l) :
    Calls Tryz.prog 51 #[v, .agg #[.int .i64 x.1, .int .i64 x.2]] w fun e w' => ∃ v', e = .returned v' ∧ ((v' = v ∧ putL l x = l) ∨ OwnP w.heap.size w' v' (putL l x)) ∧ Below w.heap.size w w' := by
  have HR : Aside (Row encP 2 w v l) := h
  obtain ⟨ao, cap, rfl, h1, h2, h3⟩ := h
  have H3 : Aside (l ≠ [] → ∃ b off, ao = some ⟨b, off, none⟩ ∧ b < w.heap.size ∧ CellsK encP 2 w b off l) := h3
  have HC : Hid (Cn l) := hc
  have C : Hid _ := rclip_any x (w.alloc (.cells #[.int .i64 x.1, .int .i64 x.2] 51))
  have B0 : Hid (Below w.heap.size w (w.alloc (.cells #[.int .i64 x.1, .int .i64 x.2] 51))) := (Below.refl _ w).alloc (Nat.le_refl _) _
  have hz0 : (w.alloc (.cells #[.int .i64 x.1, .int .i64 x.2] 51)).heap.size = w.heap.size + 1 := by simp
  clear h3 hc
  obtain ⟨r0, hr0⟩ : ∃ r, clipR x = r := ⟨_, rfl⟩
  have BR : 0 ≤ r0.1 ∧ r0.2 ≤ 4294967295 := by rw [← hr0]; simp only [clipR]; omega
  rw [hr0] at C
  by_cases hok : r0.1 ≤ r0.2
  · rw [decide_eq_true hok] at C
    have EP : Hid (putL l x = putGo r0 false l) := by show _ = _; unfold putL; rw [hr0, if_pos hok]
    clear hr0
    go_enter Tryz.func51, Tryz.ntmps51
    go_wp2_with (go_at_call 79; refine Calls.mono C.out ?_; rintro e w1 ⟨rfl, hg⟩)
    have hz1 : w.heap.size + 1 ≤ w1.heap.size := by have := hg.below.size; omega
    have B1 : Hid (Below w.heap.size w (w1.alloc (.cells #[.int .i64 r0.1, .int .i64 r0.2] 51))) := (B0.out.trans (hg.below.mono (by omega))).alloc (by omega) _
    have P1 : Hid (Cl (w1.alloc (.cells #[.int .i64 r0.1, .int .i64 r0.2] 51)) w1.heap.size #[.int .i64 r0.1, .int .i64 r0.2] 51) := Cl.new _ _ _
    have hz2 : w1.heap.size < (w1.alloc (.cells #[.int .i64 r0.1, .int .i64 r0.2] 51)).heap.size := by simp
    clear hg C B0
    generalize w1.alloc (.cells #[.int .i64 r0.1, .int .i64 r0.2] 51) = W1 at B1 P1 hz2 ⊢
    generalize w1.heap.size = p at *
    go_loopg [7, 8, 9] l.length (fun kx s7 s8 s9 wr => ∃ (i : Nat) (d : Bool) (ao' : Option Addr) (n' c' : Nat) (r : Pr) (out : List Pr), s7 = .slice ao' n' c' ∧ s8 = .bool d ∧ s9 = .int .i64 i ∧ i ≤ l.length ∧ l.length - i ≤ kx ∧ 0 ≤ r.1 ∧ r.1 ≤ r.2 ∧ r.2 ≤ 4294967295 ∧ p < wr.heap.size ∧ Aside (OwnP (p + 1) wr (.slice ao' n' c') out) ∧ Hid (Below w.heap.size w wr) ∧ Hid (Cl wr p #[.int .i64 r.1, .int .i64 r.2] 51) ∧ Hid (out ++ putGo r d (l.drop i) = putL l x) ∧ out.length ≤ 2 * i)
    case atStart => exact ⟨0, false, none, 0, 0, r0, [], rfl, rfl, rfl, Nat.zero_le _, Nat.le_refl _, BR.1, hok, BR.2, hz2, OwnP.empty _ _, B1, P1, EP.out.symm, Nat.zero_le _⟩
    case round =>
      clear B1 P1 hz2 BR hok EP
      obtain ⟨i, d, ao', n', c', r, out, rfl, rfl, rfl, hi, hki, r1, r2, r3, hp, HO, HB, HP, HE, hlen⟩ := hrel
      by_cases hil : i < l.length
      · have hilz : (i : Int) < (l.length : Int) := by omega
        obtain ⟨b, off, rfl, hb, x1, x2⟩ := row_at H3.out i hil HB.out
        have T : Hid (l.drop i = l[i]! :: l.drop (i + 1)) := drop_here hil
        obtain ⟨y1, y2, y3⟩ := HC.out.1 l[i]! (bang_mem hil)
        generalize l[i]! = y at *
        have c0 : (wr.alloc (.cells #[.int .i64 y.1, .int .i64 y.2] 51)).cell? ⟨p, 0, none⟩ = some (.int .i64 r.1) := Lib.cell?_alloc_some _ HP.out.two.1
        have c1 : (wr.alloc (.cells #[.int .i64 y.1, .int .i64 y.2] 51)).cell? ⟨p, 1, none⟩ = some (.int .i64 r.2) := Lib.cell?_alloc_some _ HP.out.two.2
        have q0 : (wr.alloc (.cells #[.int .i64 y.1, .int .i64 y.2] 51)).cell? ⟨wr.heap.size, 0, none⟩ = some (.int .i64 y.1) := by simp
        have q1 : (wr.alloc (.cells #[.int .i64 y.1, .int .i64 y.2] 51)).cell? ⟨wr.heap.size, 1, none⟩ = some (.int .i64 y.2) := by simp
        have P2 : Hid (Cl (wr.alloc (.cells #[.int .i64 y.1, .int .i64 y.2] 51)) p #[.int .i64 r.1, .int .i64 r.2] 51) := HP.out.alloc _
        have Y2 : Hid (Cl (wr.alloc (.cells #[.int .i64 y.1, .int .i64 y.2] 51)) wr.heap.size #[.int .i64 y.1, .int .i64 y.2] 51) := Cl.new _ _ _
        have O2 : Aside (OwnP (p + 1) (wr.alloc (.cells #[.int .i64 y.1, .int .i64 y.2] 51)) (.slice ao' n' c') out) := HO.out.alloc _
        have N2 : Hid ((Value.slice ao' n' c').ownBlock ≠ some wr.heap.size) := HO.out.other (Nat.le_refl _)
        have B2 : Hid (Below w.heap.size w (wr.alloc (.cells #[.int .i64 y.1, .int .i64 y.2] 51))) := HB.out.alloc (HB.out.size) _
        have hs2 : (wr.alloc (.cells #[.int .i64 y.1, .int .i64 y.2] 51)).heap.size = wr.heap.size + 1 := by simp
        have e1 : wrap64 (y.2 + 1) = y.2 + 1 := w64 (by omega) (by omega)
        have e2 : wrap64 (r.2 + 1) = r.2 + 1 := w64 (by omega) (by omega)
        by_cases g1 : y.2 + 1 < r.1
        · have E2 : Hid ((out ++ [y]) ++ putGo r d (l.drop (i + 1)) = putL l x) := by
            show _ = _
            rw [← HE.out, T.out, putGo, if_pos g1, List.append_assoc]; rfl
          clear HO HB HP HE
          go_wp2_with (at_builtin; refine app_run rfl _ _ rfl (p + 1) _ out rfl (O2.out.alloc _) (wr.heap.size + 1) 0 1 rfl y (by simp) (by simp) (by omega) (by simp; omega) ?_)
          intro ao2 n2 c2 w3 HO3 HB3 HK3
          have O4 : Aside (OwnP (p + 1) w3 (.slice ao2 n2 c2) (out ++ [y])) := HO3
          have K3 : Hid (Below (p + 1) (wr.alloc (.cells #[.int .i64 y.1, .int .i64 y.2] 51)) w3) := HB3 _ ((Below.refl _ _).alloc (by omega) _)
          have P4 : Hid (Cl w3 p #[.int .i64 r.1, .int .i64 r.2] 51) := P2.out.below K3.out (by omega)
          have B4 : Hid (Below w.heap.size w w3) := B2.out.trans (K3.out.mono (by omega))
          have hp4 : p < w3.heap.size := P4.out.lt
          clear HO3 HB3 HK3 K3
          go_wp2
          go_roundg (l.length - (i + 1))
          case measure => omega
          case rel => exact ⟨i + 1, d, ao2, n2, c2, r, out ++ [y], rfl, rfl, by go_num, by omega, Nat.le_refl _, r1, r2, r3, hp4, O4, B4, P4, E2, by simp; omega⟩
        · by_cases g2 : r.2 + 1 < y.1
          · cases d with
            | true =>
              have E2 : Hid ((out ++ [y]) ++ putGo r true (l.drop (i + 1)) = putL l x) := by
                show _ = _
                rw [← HE.out, T.out, putGo, if_neg g1, if_pos g2, if_pos rfl, List.append_assoc]; rfl
              clear HO HB HP HE
              go_wp2_with (at_builtin; refine app_run rfl _ _ rfl (p + 1) _ out rfl (O2.out.alloc _) (wr.heap.size + 1) 0 1 rfl y (by simp) (by simp) (by omega) (by simp; omega) ?_)
              intro ao2 n2 c2 w3 HO3 HB3 HK3
              have O4 : Aside (OwnP (p + 1) w3 (.slice ao2 n2 c2) (out ++ [y])) := HO3
              have K3 : Hid (Below (p + 1) (wr.alloc (.cells #[.int .i64 y.1, .int .i64 y.2] 51)) w3) := HB3 _ ((Below.refl _ _).alloc (by omega) _)
              have P4 : Hid (Cl w3 p #[.int .i64 r.1, .int .i64 r.2] 51) := P2.out.below K3.out (by omega)
              have B4 : Hid (Below w.heap.size w w3) := B2.out.trans (K3.out.mono (by omega))
              have hp4 : p < w3.heap.size := P4.out.lt
              clear HO3 HB3 HK3 K3
              go_wp2
              go_roundg (l.length - (i + 1))
              case measure => omega
              case rel => exact ⟨i + 1, true, ao2, n2, c2, r, out ++ [y], rfl, rfl, by go_num, by omega, Nat.le_refl _, r1, r2, r3, hp4, O4, B4, P4, E2, by simp; omega⟩
            | false =>
              have E2 : Hid (((out ++ [r]) ++ [y]) ++ putGo r true (l.drop (i + 1)) = putL l x) := by
                show _ = _
                rw [← HE.out, T.out, putGo, if_neg g1, if_pos g2, if_neg (by simp), List.append_assoc, List.append_assoc]; rfl
              clear HO HB HP HE
              go_wp2_with (at_builtin; refine app_run rfl _ _ rfl (p + 1) _ out rfl (O2.out.alloc _) (wr.heap.size + 1) 0 1 rfl r (by simp) (by simp) (by omega) (by simp; omega) ?_)
              intro ao2 n2 c2 w3 HO3 HB3 HK3
              have O4 : Aside (OwnP (p + 1) w3 (.slice ao2 n2 c2) (out ++ [r])) := HO3
              have K3 : Hid (Below (p + 1) (wr.alloc (.cells #[.int .i64 y.1, .int .i64 y.2] 51)) w3) := HB3 _ ((Below.refl _ _).alloc (by omega) _)
              have P4 : Hid (Cl w3 p #[.int .i64 r.1, .int .i64 r.2] 51) := P2.out.below K3.out (by omega)
              have B4 : Hid (Below w.heap.size w w3) := B2.out.trans (K3.out.mono (by omega))
              have Y4 : Cl w3 wr.heap.size #[.int .i64 y.1, .int .i64 y.2] 51 := (HK3 wr.heap.size (by omega) N2.out).trans (Y2.out.alloc _)
              have y41 := Y4.two.1
              have y42 := Y4.two.2
              have hs4 : wr.heap.size + 1 ≤ w3.heap.size := Y4.lt
              clear HO3 HB3 HK3 K3 c0 c1 q0 q1 Y4
              have hlen2 : (out ++ [r]).length ≤ 2 * i + 1 := by simp; omega
              obtain ⟨o2, ho2⟩ : ∃ o2, out ++ [r] = o2 := ⟨_, rfl⟩
              rw [ho2] at O4 E2 hlen2
              clear ho2
              go_wp2_with (at_builtin; refine app_run rfl _ _ rfl (p + 1) _ o2 rfl (O4.out.alloc _) w3.heap.size 0 1 rfl y (by simp) (by simp) (by omega) (by simp; omega) ?_)
              intro ao5 n5 c5 w5 HO5 HB5 _
              have O6 : Aside (OwnP (p + 1) w5 (.slice ao5 n5 c5) (o2 ++ [y])) := HO5
              have K5 : Hid (Below (p + 1) w3 w5) := HB5 _ ((Below.refl _ _).alloc (by omega) _)
              have P6 : Hid (Cl w5 p #[.int .i64 r.1, .int .i64 r.2] 51) := P4.out.below K5.out (by omega)
              have B6 : Hid (Below w.heap.size w w5) := B4.out.trans (K5.out.mono (by omega))
              have hp6 : p < w5.heap.size := P6.out.lt
              clear HO5 HB5 K5 O4 P4 B4
              go_wp2
              go_roundg (l.length - (i + 1))
              case measure => omega
              case rel => exact ⟨i + 1, true, ao5, n5, c5, r, o2 ++ [y], rfl, rfl, by go_num, by omega, Nat.le_refl _, r1, r2, r3, hp6, O6, B6, P6, E2, by simp; omega⟩
          · have E2 : Hid (out ++ putGo (min r.1 y.1, max r.2 y.2) d (l.drop (i + 1)) = putL l x) := by
              show _ = _
              rw [← HE.out, T.out, putGo, if_neg g1, if_neg g2]
            have f0 : (wr.alloc (.cells #[.int .i64 y.1, .int .i64 y.2] 51)).frozen? ⟨p, 0, none⟩ = false := P2.out.frozen 0
            have f1 : (wr.alloc (.cells #[.int .i64 y.1, .int .i64 y.2] 51)).frozen? ⟨p, 1, none⟩ = false := P2.out.frozen 1
            clear HO HB HP HE
            go_upto_region 10 with fail
            generalize wr.alloc (.cells #[.int .i64 y.1, .int .i64 y.2] 51) = w2 at *
            go_wp2
            go_roundg (l.length - (i + 1))
            case measure => omega
            case rel =>
              refine ⟨i + 1, d, ao', n', c', (min r.1 y.1, max r.2 y.2), out, rfl, rfl, by go_num, by omega, Nat.le_refl _, by simp only; omega, by simp only; omega, by simp only; omega, by simp; omega, ?_, ?_, P2.out.set2 _ _, E2, by omega⟩
              · exact ownsRow_setCell_other (ownsRow_setCell_other O2.out (O2.out.ne (by simp)) _) (O2.out.ne (by simp)) _
              · exact (B2.out.setCell (p := ⟨p, 0, none⟩) (by simp; omega) _).setCell (p := ⟨p, 1, none⟩) (by simp; omega) _
      · have hilz : ¬ (i : Int) < (l.length : Int) := by omega
        obtain rfl : i = l.length := by omega
        rw [List.drop_length] at HE
        cases d with
        | true =>
          have E2 : Hid (out = putL l x) := by
            show _ = _
            rw [← HE.out]; simp [putGo]
          clear HE
          go_wp2
          go_ret
          exact ⟨_, rfl, .inr (by rw [← E2.out]; exact HO.out.mono' (by omega)), HB.out⟩
        | false =>
          have E2 : Hid (out ++ [r] = putL l x) := by
            show _ = _
            rw [← HE.out]; simp [putGo]
          have c0 := HP.out.two.1
          have c1 := HP.out.two.2
          have hbs := HB.out.size
          clear HE
          go_wp2_with (at_builtin; refine app_run rfl _ _ rfl (p + 1) _ out rfl (HO.out.alloc _) wr.heap.size 0 1 rfl r (by simp) (by simp) (by omega) (by simp; omega) ?_)
          intro ao2 n2 c2 w3 HO3 HB3 _
          have O4 : Aside (OwnP (p + 1) w3 (.slice ao2 n2 c2) (out ++ [r])) := HO3
          have B4 : Hid (Below w.heap.size w w3) := HB.out.trans ((HB3 _ ((Below.refl _ wr).alloc (by omega) _)).mono (by omega))
          clear HO3 HB3
          go_wp2
          go_ret
          exact ⟨_, rfl, .inr (by rw [← E2.out]; exact O4.out.mono' (by omega)), B4.out⟩
  · rw [decide_eq_false hok] at C
    have EP : Hid (putL l x = l) := by show _ = _; unfold putL; rw [hr0, if_neg hok]
    clear hr0
    go_enter Tryz.func51, Tryz.ntmps51
    go_wp2_with (go_at_call 79; refine Calls.mono C.out ?_; rintro e w1 ⟨rfl, hg⟩)
    have B1 : Below w.heap.size w (w1.alloc (.cells #[.int .i64 r0.1, .int .i64 r0.2] 51)) := (B0.out.trans (hg.below.mono (by omega))).alloc (by have := hg.below.size; omega) _
    go_ret
    exact ⟨_, rfl, .inl ⟨rfl, EP.out⟩, B1⟩

set_option maxHeartbeats 2000000 in
set_option maxRecDepth 100000 in
theorem rnorm_own (v : Value) (l : List Pr) (w : World) (h : Row encP 2 w v l) (hl : l.length ≤ 40000) :
    Calls Tryz.prog 29 #[v] w fun e w' => ∃ v', e = .returned v' ∧ OwnP w.heap.size w' v' (nmL l) ∧ Below w.heap.size w w' := by
  obtain ⟨ao, cap, rfl, h1, h2, h3⟩ := h
  have H3 : Aside (l ≠ [] → ∃ b off, ao = some ⟨b, off, none⟩ ∧ b < w.heap.size ∧ CellsK encP 2 w b off l) := h3
  clear h3
  go_enter Tryz.func29, Tryz.ntmps29
  go_wp2
  go_loopg [3, 4] l.length (fun kx s3 s4 wr => ∃ (i : Nat) (ao' : Option Addr) (n' c' : Nat), s3 = .slice ao' n' c' ∧ s4 = .int .i64 i ∧ i ≤ l.length ∧ l.length - i ≤ kx ∧ Aside (OwnP w.heap.size wr (.slice ao' n' c') (nmL (l.take i))) ∧ Hid (Below w.heap.size w wr))
  case atStart => exact ⟨0, none, 0, 0, rfl, rfl, Nat.zero_le _, Nat.le_refl _, OwnP.empty _ _, Below.refl _ _⟩
  case round =>
    obtain ⟨i, ao', n', c', rfl, rfl, hi, hki, HR, HB⟩ := hrel
    by_cases hil : i < l.length
    · have hilz : (i : Int) < (l.length : Int) := by omega
      obtain ⟨b, off, rfl, hb, x1, x2⟩ := row_at H3.out i hil HB.out
      have T : Hid (nmL (l.take (i + 1)) = putL (nmL (l.take i)) l[i]!) := by show _ = _; rw [take_next hil, nmL_snoc]
      generalize l[i]! = x at *
      have C : Hid _ := rput_own _ _ x wr HR.out.own.row (by have := nmL_length (l.take i); simp at this; omega) (nmL_cn _)
      have HT : Hid _ := T
      rw [← T.out] at C
      clear T
      go_wp2_with (go_at_call 51; refine Calls.mono C.out ?_; rintro e w2 ⟨v2, rfl, hr2, hb2⟩)
      have R2 : Aside (OwnP w.heap.size w2 v2 (nmL (l.take (i + 1)))) := by
        rcases hr2 with ⟨rfl, e2⟩ | hr2
        · show OwnP _ _ _ _
          rw [e2]; exact HR.out.below' hb2
        · exact hr2.mono' HB.out.size
      obtain ⟨ao2, c2, rfl, _⟩ := R2.out.shape
      have B2 : Hid (Below w.heap.size w w2) := HB.out.trans (hb2.mono HB.out.size)
      clear hr2 hb2 C HB HR HT
      go_wp2
      go_roundg (l.length - (i + 1))
      case measure => omega
      case rel => exact ⟨i + 1, ao2, _, c2, rfl, by go_num, by omega, Nat.le_refl _, R2, B2⟩
    · have hilz : ¬ (i : Int) < (l.length : Int) := by omega
      obtain rfl : i = l.length := by omega
      rw [List.take_length] at HR
      go_wp2
      go_ret
      exact ⟨_, rfl, HR.out, HB.out⟩

end Go.Proofs.YtnjnggjbeklmpaaGreatDoor

/-
  The walk of the document's Put: a list in the one way, with one run more.
-/
import Derived.Test.YtoigljefajbofaaRnRef
namespace Go.Proofs.Ytoigljefajbofaa
open Go.Shelf Go.RowKit Go.Lib Go.Sort

theorem OwnP.other {base : Nat} {W : World} {v : Value} {l : List Pr} (h : OwnP base W v l) {j : Nat} (hj : W.heap.size ≤ j) : v.ownBlock ≠ some j := by
  rcases h.2 with ⟨rfl, _⟩ | ⟨g, cap, cur, rfl, hg, hh, _⟩
  · simp [Value.ownBlock]
  · have := (Array.getElem?_eq_some_iff.1 hh).1
    simp only [Value.ownBlock, ne_eq, Option.some.injEq]
    omega

theorem OwnP.ne {base : Nat} {W : World} {v : Value} {l : List Pr} (h : OwnP base W v l) {j : Nat} (hj : j < base) : v.ownBlock ≠ some j := by
  rcases h.2 with ⟨rfl, _⟩ | ⟨g, cap, cur, rfl, hg, hh, _⟩
  · simp [Value.ownBlock]
  · simp only [Value.ownBlock, ne_eq, Option.some.injEq]
    omega

/-- One run appended to a row of the call's own: no block has turned but the row's. -/
theorem app_run {ops : Array Oper} {rest : List Oper} {o : Oper} {a : Act} {Q : Exit → Act → World → Prop} {w : World} (hgd : o.guard = .none) (s x : Operand)
    (ho : o.op = .call { callee := .builtin .append, args := #[s, x], argTypes := #[22, 22] }) (base : Nat) (v : Value) (l : List Pr) (hs : a.eval s = v) (hown : OwnP base w v l)
    (b off c : Nat) (hx : a.eval x = .slice (some ⟨b, off, .none⟩) 1 c) (y : Pr) (c0 : w.cell? ⟨b, off, .none⟩ = some (.int .i64 y.1)) (c1 : w.cell? ⟨b, off + 1, .none⟩ = some (.int .i64 y.2)) (hl : l.length < 1000000) (hbase : base ≤ w.heap.size)
    (h : ∀ ao n c w', OwnP base w' (.slice ao n c) (l ++ [y]) → (∀ w0, Below base w0 w → Below base w0 w') → (∀ j, j < w.heap.size → v.ownBlock ≠ some j → w'.heap[j]? = w.heap[j]?) → wpList Try.prog ops Q rest (a.put o.dst (.slice ao n c)) w') : wpList Try.prog ops Q (o :: rest) a w := by
  obtain ⟨i0, hi, hz0, hz1, hz2⟩ := info_parts infoPair
  refine wpList_append_own w hgd s x 22 ho base 29 i0 _ 2 16 Try.underlying22 hi hz0 hz1 hz2 rfl (by decide) v _ _ hs hown ⟨b, off, .none⟩ 1 c (encP y) hx rfl ?_ (encP_one y) (by unfold maxLen; omega) (by omega) hbase ?_
  · intro j u hj
    simp only [encP] at hj
    match j, hj with
    | 0, hj => simp at hj; subst hj; simpa [Addr.add] using c0
    | 1, hj => simp at hj; subst hj; simpa [Addr.add] using c1
  · intro v' w' h1 h2 _
    obtain ⟨s1, s2⟩ := OwnP.step hbase hown h2 h1
    obtain ⟨ao', n', c', rfl⟩ : ∃ ao n c, v' = .slice ao n c := by
      rcases h1.2 with ⟨h, _⟩ | ⟨g, cap, cur, h, _⟩
      · exact ⟨_, _, _, h⟩
      · exact ⟨_, _, _, h⟩
    exact h _ _ _ _ s1 s2 fun j hj hne => h2.block j hj fun e => hne e.symm

theorem w64 {z : Int} (h0 : -4294967296 ≤ z) (h1 : z ≤ 17179869184) : wrap64 z = z := by unfold wrap64; omega

set_option maxHeartbeats 4000000 in
set_option maxRecDepth 100000 in
theorem rput_any (v : Value) (l : List Pr) (x : Pr) (w : World) (h : Row encP 2 w v l) (hl : l.length ≤ 50000) (hc : Cn l) :
    Calls Try.prog 27 #[v, .agg #[.int .i64 x.1, .int .i64 x.2]] w fun e w' => ∃ v', e = .returned v' ∧ Row encP 2 w' v' (putL l x) ∧ Below w.heap.size w w' := by
  have HR : Aside (Row encP 2 w v l) := h
  obtain ⟨ao, cap, rfl, h1, h2, h3⟩ := h
  have H3 : Aside (l ≠ [] → ∃ b off, ao = some ⟨b, off, none⟩ ∧ b < w.heap.size ∧ CellsK encP 2 w b off l) := h3
  have HC : Hid (Cn l) := hc
  have C : Hid _ := rclip_any x (w.alloc (.cells #[.int .i64 x.1, .int .i64 x.2] 29))
  have B0 : Hid (Below w.heap.size w (w.alloc (.cells #[.int .i64 x.1, .int .i64 x.2] 29))) := (Below.refl _ w).alloc (Nat.le_refl _) _
  have hz0 : (w.alloc (.cells #[.int .i64 x.1, .int .i64 x.2] 29)).heap.size = w.heap.size + 1 := by simp
  clear h3 hc
  obtain ⟨r0, hr0⟩ : ∃ r, clipR x = r := ⟨_, rfl⟩
  have BR : 0 ≤ r0.1 ∧ r0.2 ≤ 4294967295 := by rw [← hr0]; simp only [clipR]; omega
  rw [hr0] at C
  by_cases hok : r0.1 ≤ r0.2
  · rw [decide_eq_true hok] at C
    have EP : Hid (putL l x = putGo r0 false l) := by show _ = _; unfold putL; rw [hr0, if_pos hok]
    clear hr0
    go_enter Try.func27, Try.ntmps27
    go_wp2_with (go_at_call 29; refine Calls.mono C.out ?_; rintro e w1 ⟨rfl, hg⟩)
    have hz1 : w.heap.size + 1 ≤ w1.heap.size := by have := hg.below.size; omega
    have B1 : Hid (Below w.heap.size w (w1.alloc (.cells #[.int .i64 r0.1, .int .i64 r0.2] 29))) := (B0.out.trans (hg.below.mono (by omega))).alloc (by omega) _
    have P1 : Hid (Cl (w1.alloc (.cells #[.int .i64 r0.1, .int .i64 r0.2] 29)) w1.heap.size #[.int .i64 r0.1, .int .i64 r0.2] 29) := Cl.new _ _ _
    have hz2 : w1.heap.size < (w1.alloc (.cells #[.int .i64 r0.1, .int .i64 r0.2] 29)).heap.size := by simp
    clear hg C B0
    generalize w1.alloc (.cells #[.int .i64 r0.1, .int .i64 r0.2] 29) = W1 at B1 P1 hz2 ⊢
    generalize w1.heap.size = p at *
    go_loopg [7, 8, 9] l.length (fun kx s7 s8 s9 wr => ∃ (i : Nat) (d : Bool) (ao' : Option Addr) (n' c' : Nat) (r : Pr) (out : List Pr), s7 = .slice ao' n' c' ∧ s8 = .bool d ∧ s9 = .int .i64 i ∧ i ≤ l.length ∧ l.length - i ≤ kx ∧ 0 ≤ r.1 ∧ r.1 ≤ r.2 ∧ r.2 ≤ 4294967295 ∧ p < wr.heap.size ∧ Aside (OwnP (p + 1) wr (.slice ao' n' c') out) ∧ Hid (Below w.heap.size w wr) ∧ Hid (Cl wr p #[.int .i64 r.1, .int .i64 r.2] 29) ∧ Hid (out ++ putGo r d (l.drop i) = putL l x) ∧ out.length ≤ 2 * i)
    case atStart => exact ⟨0, false, none, 0, 0, r0, [], rfl, rfl, rfl, Nat.zero_le _, Nat.le_refl _, BR.1, hok, BR.2, hz2, OwnP.empty _ _, B1, P1, EP.out.symm, Nat.zero_le _⟩
    case round =>
      clear B1 P1 hz2 BR hok EP
      obtain ⟨i, d, ao', n', c', r, out, rfl, rfl, rfl, hi, hki, r1, r2, r3, hp, HO, HB, HP, HE, hlen⟩ := hrel
      by_cases hil : i < l.length
      · have hilz : (i : Int) < (l.length : Int) := by omega
        obtain ⟨b, off, rfl, hb, x1, x2⟩ := row_at H3.out i hil HB.out
        have T : Hid (l.drop i = l[i]! :: l.drop (i + 1)) := drop_here hil
        obtain ⟨y1, y2, y3⟩ := HC.out.1 l[i]! (bang_mem hil)
        generalize l[i]! = y at *
        have c0 : (wr.alloc (.cells #[.int .i64 y.1, .int .i64 y.2] 29)).cell? ⟨p, 0, none⟩ = some (.int .i64 r.1) := Lib.cell?_alloc_some _ HP.out.two.1
        have c1 : (wr.alloc (.cells #[.int .i64 y.1, .int .i64 y.2] 29)).cell? ⟨p, 1, none⟩ = some (.int .i64 r.2) := Lib.cell?_alloc_some _ HP.out.two.2
        have q0 : (wr.alloc (.cells #[.int .i64 y.1, .int .i64 y.2] 29)).cell? ⟨wr.heap.size, 0, none⟩ = some (.int .i64 y.1) := by simp
        have q1 : (wr.alloc (.cells #[.int .i64 y.1, .int .i64 y.2] 29)).cell? ⟨wr.heap.size, 1, none⟩ = some (.int .i64 y.2) := by simp
        have P2 : Hid (Cl (wr.alloc (.cells #[.int .i64 y.1, .int .i64 y.2] 29)) p #[.int .i64 r.1, .int .i64 r.2] 29) := HP.out.alloc _
        have Y2 : Hid (Cl (wr.alloc (.cells #[.int .i64 y.1, .int .i64 y.2] 29)) wr.heap.size #[.int .i64 y.1, .int .i64 y.2] 29) := Cl.new _ _ _
        have O2 : Aside (OwnP (p + 1) (wr.alloc (.cells #[.int .i64 y.1, .int .i64 y.2] 29)) (.slice ao' n' c') out) := HO.out.alloc _
        have N2 : Hid ((Value.slice ao' n' c').ownBlock ≠ some wr.heap.size) := HO.out.other (Nat.le_refl _)
        have B2 : Hid (Below w.heap.size w (wr.alloc (.cells #[.int .i64 y.1, .int .i64 y.2] 29))) := HB.out.alloc (HB.out.size) _
        have hs2 : (wr.alloc (.cells #[.int .i64 y.1, .int .i64 y.2] 29)).heap.size = wr.heap.size + 1 := by simp
        have e1 : wrap64 (y.2 + 1) = y.2 + 1 := w64 (by omega) (by omega)
        have e2 : wrap64 (r.2 + 1) = r.2 + 1 := w64 (by omega) (by omega)
        by_cases g1 : y.2 + 1 < r.1
        · have E2 : Hid ((out ++ [y]) ++ putGo r d (l.drop (i + 1)) = putL l x) := by
            show _ = _
            rw [← HE.out, T.out, putGo, if_pos g1, List.append_assoc]; rfl
          clear HO HB HP HE
          go_wp2_with (at_builtin; refine app_run rfl _ _ rfl (p + 1) _ out rfl (O2.out.alloc _) (wr.heap.size + 1) 0 1 rfl y (by simp) (by simp) (by omega) (by simp; omega) ?_)
          intro ao2 n2 c2 w3 HO3 HB3 HK3
          have O4 : Aside (OwnP (p + 1) w3 (.slice ao2 n2 c2) (out ++ [y])) := HO3
          have K3 : Hid (Below (p + 1) (wr.alloc (.cells #[.int .i64 y.1, .int .i64 y.2] 29)) w3) := HB3 _ ((Below.refl _ _).alloc (by omega) _)
          have P4 : Hid (Cl w3 p #[.int .i64 r.1, .int .i64 r.2] 29) := P2.out.below K3.out (by omega)
          have B4 : Hid (Below w.heap.size w w3) := B2.out.trans (K3.out.mono (by omega))
          have hp4 : p < w3.heap.size := P4.out.lt
          clear HO3 HB3 HK3 K3
          go_wp2
          go_roundg (l.length - (i + 1))
          case measure => omega
          case rel => exact ⟨i + 1, d, ao2, n2, c2, r, out ++ [y], rfl, rfl, by go_num, by omega, Nat.le_refl _, r1, r2, r3, hp4, O4, B4, P4, E2, by simp; omega⟩
        · by_cases g2 : r.2 + 1 < y.1
          · cases d with
            | true =>
              have E2 : Hid ((out ++ [y]) ++ putGo r true (l.drop (i + 1)) = putL l x) := by
                show _ = _
                rw [← HE.out, T.out, putGo, if_neg g1, if_pos g2, if_pos rfl, List.append_assoc]; rfl
              clear HO HB HP HE
              go_wp2_with (at_builtin; refine app_run rfl _ _ rfl (p + 1) _ out rfl (O2.out.alloc _) (wr.heap.size + 1) 0 1 rfl y (by simp) (by simp) (by omega) (by simp; omega) ?_)
              intro ao2 n2 c2 w3 HO3 HB3 HK3
              have O4 : Aside (OwnP (p + 1) w3 (.slice ao2 n2 c2) (out ++ [y])) := HO3
              have K3 : Hid (Below (p + 1) (wr.alloc (.cells #[.int .i64 y.1, .int .i64 y.2] 29)) w3) := HB3 _ ((Below.refl _ _).alloc (by omega) _)
              have P4 : Hid (Cl w3 p #[.int .i64 r.1, .int .i64 r.2] 29) := P2.out.below K3.out (by omega)
              have B4 : Hid (Below w.heap.size w w3) := B2.out.trans (K3.out.mono (by omega))
              have hp4 : p < w3.heap.size := P4.out.lt
              clear HO3 HB3 HK3 K3
              go_wp2
              go_roundg (l.length - (i + 1))
              case measure => omega
              case rel => exact ⟨i + 1, true, ao2, n2, c2, r, out ++ [y], rfl, rfl, by go_num, by omega, Nat.le_refl _, r1, r2, r3, hp4, O4, B4, P4, E2, by simp; omega⟩
            | false =>
              have E2 : Hid (((out ++ [r]) ++ [y]) ++ putGo r true (l.drop (i + 1)) = putL l x) := by
                show _ = _
                rw [← HE.out, T.out, putGo, if_neg g1, if_pos g2, if_neg (by simp), List.append_assoc, List.append_assoc]; rfl
              clear HO HB HP HE
              go_wp2_with (at_builtin; refine app_run rfl _ _ rfl (p + 1) _ out rfl (O2.out.alloc _) (wr.heap.size + 1) 0 1 rfl r (by simp) (by simp) (by omega) (by simp; omega) ?_)
              intro ao2 n2 c2 w3 HO3 HB3 HK3
              have O4 : Aside (OwnP (p + 1) w3 (.slice ao2 n2 c2) (out ++ [r])) := HO3
              have K3 : Hid (Below (p + 1) (wr.alloc (.cells #[.int .i64 y.1, .int .i64 y.2] 29)) w3) := HB3 _ ((Below.refl _ _).alloc (by omega) _)
              have P4 : Hid (Cl w3 p #[.int .i64 r.1, .int .i64 r.2] 29) := P2.out.below K3.out (by omega)
              have B4 : Hid (Below w.heap.size w w3) := B2.out.trans (K3.out.mono (by omega))
              have Y4 : Cl w3 wr.heap.size #[.int .i64 y.1, .int .i64 y.2] 29 := (HK3 wr.heap.size (by omega) N2.out).trans (Y2.out.alloc _)
              have y41 := Y4.two.1
              have y42 := Y4.two.2
              have hs4 : wr.heap.size + 1 ≤ w3.heap.size := Y4.lt
              clear HO3 HB3 HK3 K3 c0 c1 q0 q1 Y4
              have hlen2 : (out ++ [r]).length ≤ 2 * i + 1 := by simp; omega
              obtain ⟨o2, ho2⟩ : ∃ o2, out ++ [r] = o2 := ⟨_, rfl⟩
              rw [ho2] at O4 E2 hlen2
              clear ho2
              go_wp2_with (at_builtin; refine app_run rfl _ _ rfl (p + 1) _ o2 rfl (O4.out.alloc _) w3.heap.size 0 1 rfl y (by simp) (by simp) (by omega) (by simp; omega) ?_)
              intro ao5 n5 c5 w5 HO5 HB5 _
              have O6 : Aside (OwnP (p + 1) w5 (.slice ao5 n5 c5) (o2 ++ [y])) := HO5
              have K5 : Hid (Below (p + 1) w3 w5) := HB5 _ ((Below.refl _ _).alloc (by omega) _)
              have P6 : Hid (Cl w5 p #[.int .i64 r.1, .int .i64 r.2] 29) := P4.out.below K5.out (by omega)
              have B6 : Hid (Below w.heap.size w w5) := B4.out.trans (K5.out.mono (by omega))
              have hp6 : p < w5.heap.size := P6.out.lt
              clear HO5 HB5 K5 O4 P4 B4
              go_wp2
              go_roundg (l.length - (i + 1))
              case measure => omega
              case rel => exact ⟨i + 1, true, ao5, n5, c5, r, o2 ++ [y], rfl, rfl, by go_num, by omega, Nat.le_refl _, r1, r2, r3, hp6, O6, B6, P6, E2, by simp; omega⟩
          · have E2 : Hid (out ++ putGo (min r.1 y.1, max r.2 y.2) d (l.drop (i + 1)) = putL l x) := by
              show _ = _
              rw [← HE.out, T.out, putGo, if_neg g1, if_neg g2]
            have f0 : (wr.alloc (.cells #[.int .i64 y.1, .int .i64 y.2] 29)).frozen? ⟨p, 0, none⟩ = false := P2.out.frozen 0
            have f1 : (wr.alloc (.cells #[.int .i64 y.1, .int .i64 y.2] 29)).frozen? ⟨p, 1, none⟩ = false := P2.out.frozen 1
            clear HO HB HP HE
            go_upto_region 10 with fail
            generalize wr.alloc (.cells #[.int .i64 y.1, .int .i64 y.2] 29) = w2 at *
            go_wp2
            go_roundg (l.length - (i + 1))
            case measure => omega
            case rel =>
              refine ⟨i + 1, d, ao', n', c', (min r.1 y.1, max r.2 y.2), out, rfl, rfl, by go_num, by omega, Nat.le_refl _, by simp only; omega, by simp only; omega, by simp only; omega, by simp; omega, ?_, ?_, P2.out.set2 _ _, E2, by omega⟩
              · exact ownsRow_setCell_other (ownsRow_setCell_other O2.out (O2.out.ne (by simp)) _) (O2.out.ne (by simp)) _
              · exact (B2.out.setCell (p := ⟨p, 0, none⟩) (by simp; omega) _).setCell (p := ⟨p, 1, none⟩) (by simp; omega) _
      · have hilz : ¬ (i : Int) < (l.length : Int) := by omega
        obtain rfl : i = l.length := by omega
        rw [List.drop_length] at HE
        cases d with
        | true =>
          have E2 : Hid (out = putL l x) := by
            show _ = _
            rw [← HE.out]; simp [putGo]
          clear HE
          go_wp2
          go_ret
          exact ⟨_, rfl, by rw [← E2.out]; exact HO.out.own.row, HB.out⟩
        | false =>
          have E2 : Hid (out ++ [r] = putL l x) := by
            show _ = _
            rw [← HE.out]; simp [putGo]
          have c0 := HP.out.two.1
          have c1 := HP.out.two.2
          have hbs := HB.out.size
          clear HE
          go_wp2_with (at_builtin; refine app_run rfl _ _ rfl (p + 1) _ out rfl (HO.out.alloc _) wr.heap.size 0 1 rfl r (by simp) (by simp) (by omega) (by simp; omega) ?_)
          intro ao2 n2 c2 w3 HO3 HB3 _
          have O4 : Aside (OwnP (p + 1) w3 (.slice ao2 n2 c2) (out ++ [r])) := HO3
          have B4 : Hid (Below w.heap.size w w3) := HB.out.trans ((HB3 _ ((Below.refl _ wr).alloc (by omega) _)).mono (by omega))
          clear HO3 HB3
          go_wp2
          go_ret
          exact ⟨_, rfl, by rw [← E2.out]; exact O4.out.own.row, B4.out⟩
  · rw [decide_eq_false hok] at C
    have EP : Hid (putL l x = l) := by show _ = _; unfold putL; rw [hr0, if_neg hok]
    clear hr0
    go_enter Try.func27, Try.ntmps27
    go_wp2_with (go_at_call 29; refine Calls.mono C.out ?_; rintro e w1 ⟨rfl, hg⟩)
    have B1 : Below w.heap.size w (w1.alloc (.cells #[.int .i64 r0.1, .int .i64 r0.2] 29)) := (B0.out.trans (hg.below.mono (by omega))).alloc (by have := hg.below.size; omega) _
    go_ret
    exact ⟨_, rfl, by rw [EP.out]; exact HR.out.below B1, B1⟩

end Go.Proofs.Ytoigljefajbofaa

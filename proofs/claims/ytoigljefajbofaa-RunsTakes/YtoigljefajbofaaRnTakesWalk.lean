/-
  The walk of the law RunsTakes.
-/
import Derived.Test.YtoigljefajbofaaRnLaw
namespace Go.Proofs.Ytoigljefajbofaa
open Go.Shelf Go.RowKit Go.Lib Go.Sort

set_option maxRecDepth 100000 in
set_option maxHeartbeats 4000000 in
theorem takes.long_a (va : Value) (a : List Pr) (n : Int) (w : World) (ha : Row encP 2 w va a) (la : 40 < a.length) : Calls Try.prog 8 #[va, .int .i64 n] w fun e w' => e = .returned (.bool true) ∧ Below w.heap.size w w' := by
  obtain ⟨aoa, capa, rfl, _⟩ := id ha
  have ia : (40 : Int) < (a.length : Int) := by omega
  clear ha
  go_enter Try.func8, Try.ntmps8
  go_wp2_with fail
  refine (works_any _).mono ?_
  rintro e w1 ⟨rfl, b1⟩
  go_wp2
  go_ret
  exact ⟨rfl, b1⟩

set_option maxRecDepth 100000 in
set_option maxHeartbeats 4000000 in
theorem takes.short (va : Value) (a : List Pr) (n : Int) (w : World) (ha : Row encP 2 w va a) (la : a.length ≤ 40) : Calls Try.prog 8 #[va, .int .i64 n] w fun e w' => e = .returned (.bool true) ∧ Below w.heap.size w w' := by
  have Ra0 : Hid (Row encP 2 w va a) := ha
  obtain ⟨aoa, capa, rfl, _⟩ := id ha
  clear ha
  have B0 : Hid (Below w.heap.size w w) := Below.refl _ _
  have ia : ¬ (40 : Int) < (a.length : Int) := by omega
  go_enter Try.func8, Try.ntmps8
  have C1 : Hid (Calls Try.prog 9 #[] w fun e w' => e = .returned (.bool true) ∧ Below w.heap.size w w') := works_any w
  go_wp2_with fail
  refine Calls.mono C1.out ?_
  rintro e w1 ⟨rfl, b1⟩
  clear C1
  have Ra1 : Hid (Row encP 2 w1 _ a) := Ra0.out.below b1
  have B1 : Hid (Below w.heap.size w w1) := B0.out.trans (b1.mono B0.out.size)
  clear Ra0 B0
  clear b1
  have C2 : Hid (Calls Try.prog 11 #[.slice aoa a.length capa] w1 (Gives w1 (nmL a))) := by
    show Calls _ _ _ _ _
    have := norm_g _ a w1 Ra1.out (by omega)
    exact this
  go_wp2_with fail
  refine Calls.mono C2.out ?_
  rintro e w2 ⟨aos, ns, cs, rfl, rs, b2⟩
  obtain ⟨_, _, ks, _⟩ := id rs
  cases ks
  clear C2
  have Ra2 : Hid (Row encP 2 w2 _ a) := Ra1.out.below b2
  have B2 : Hid (Below w.heap.size w w2) := B1.out.trans (b2.mono B1.out.size)
  clear Ra1 B1
  clear b2
  have Rs2 : Hid (Row encP 2 w2 _ (nmL a)) := rs
  clear rs
  have C3 : Hid (Calls Try.prog 22 #[.slice aos (nmL a).length cs] w2 fun e w' => e = .returned (.int .i64 (cntL (nmL a))) ∧ Below w2.heap.size w2 w') := count_cn _ _ w2 Rs2.out (nmL_cn a) (by have := nmL_length a; omega)
  go_wp2_with fail
  refine Calls.mono C3.out ?_
  rintro e w3 ⟨rfl, b3⟩
  clear C3
  have Ra3 : Hid (Row encP 2 w3 _ a) := Ra2.out.below b3
  have Rs3 : Hid (Row encP 2 w3 _ (nmL a)) := Rs2.out.below b3
  have B3 : Hid (Below w.heap.size w w3) := B2.out.trans (b3.mono B2.out.size)
  clear Ra2 Rs2 B2
  clear b3
  have S0 : Hid (Cn (nmL a)) := nmL_cn a
  have I0 : Hid (∀ k, InR (nmL a) k → InR a k ∧ -1 < k) := fun k hk => by
    rw [nmL_in] at hk
    exact ⟨hk, by have := hk.1; omega⟩
  have L0 : (nmL a).length ≤ 40 := by have := nmL_length a; omega
  generalize nmL a = s0 at *
  obtain ⟨ns, hns⟩ : ∃ k, s0.length = k := ⟨_, rfl⟩
  rw [hns] at Rs3 L0 ⊢
  have HL0 : Hid (s0.length ≤ 40) := by show s0.length ≤ 40; omega
  clear hns
  go_wp2
  go_loopg [6, 7, 8, 9] 60 (fun kx s6 s7 s8 s9 wr => ∃ (i : Nat) (sl : List Pr) (ao : Option Addr) (m c : Nat) (last : Int), s6 = .slice ao m c ∧ s7 = .int .i64 last ∧ s8 = .int .i64 (cntL sl) ∧ s9 = .int .i64 i ∧ i ≤ 60 ∧ 60 - i ≤ kx ∧ Aside (Row encP 2 wr (.slice ao m c) sl) ∧ Aside (Row encP 2 wr (.slice aoa a.length capa) a) ∧ Hid (Cn sl) ∧ Hid (∀ k, InR sl k → InR a k ∧ last < k) ∧ Hid (sl.length ≤ 40) ∧ Hid (Below w.heap.size w wr))
  case atStart => exact ⟨0, s0, _, _, _, -1, rfl, rfl, rfl, rfl, by omega, by omega, Rs3, Ra3, S0, I0, HL0, B3⟩
  case round =>
    clear Rs3 Ra3 S0 I0 HL0 B3 L0
    obtain ⟨i, sl, ao, m, c, last, rfl, rfl, rfl, rfl, hi, hki, RS, RA, HC, HI, HL, HB⟩ := hrel
    by_cases hcond : (i : Int) < min n 60
    · have hi2 : i < 60 := by omega
      cases sl with
      | nil =>
        obtain ⟨_, _, em, _⟩ := id RS.out
        cases em
        have C1 : Hid (Calls Try.prog 19 #[.slice ao ([] : List Pr).length c] wr fun e w' => e = .returned (.tuple #[.int .i64 0, .bool false]) ∧ Below wr.heap.size wr w') := first_any _ [] wr RS.out (by simp)
        simp only [List.length_nil, cnt_nil] at *
        go_wp2_with (go_at_call 19; refine Calls.mono C1.out ?_; rintro e w1 ⟨rfl, b1⟩)
        go_ret
        exact ⟨rfl, HB.out.trans (b1.mono HB.out.size)⟩
      | cons r tl =>
        obtain ⟨d1, d2, d3, d4, d5⟩ := dropF_ok HC.out
        have D1 : Hid (mnL (r :: tl) [(r.1, r.1)] = dropF (r :: tl)) := d1
        have D2 : Hid (Cn (dropF (r :: tl))) := d2
        have D4 : Hid ((dropF (r :: tl)).length ≤ 40) := Nat.le_trans d4 HL.out
        have D5 : Hid (∀ k, InR (dropF (r :: tl)) k → InR a k ∧ r.1 < k) := fun k hk => by
          obtain ⟨k1, k2⟩ := (d5 k).1 hk
          exact ⟨(HI.out k k1).1, k2⟩
        have hcp : 0 < cntL (r :: tl) := (cnt_pos HC.out).2 (by simp)
        have hcb := (cnt_le HC.out).2
        obtain ⟨k1, k2⟩ := HI.out r.1 (HC.out.head_in (Int.le_refl _) ((cn_cons.1 HC.out).1.2.1))
        have C1 : Hid (Calls Try.prog 19 #[.slice ao m c] wr fun e w' => e = .returned (.tuple #[.int .i64 r.1, .bool true]) ∧ Below wr.heap.size wr w') := by
          show Calls _ _ _ _ _
          have := first_any _ (r :: tl) wr RS.out (by have := HL.out; omega)
          rw [nmL_of_cn HC.out] at this
          exact this
        have K1 : Hid (hasB a r.1 = true) := hasB_yes k1
        have LS : Hid ((r :: tl).length ≤ 40) := HL.out
        have D3 : Hid (cntL (dropF (r :: tl)) = cntL (r :: tl) - 1) := d3
        clear d1 d2 d3 d4 d5 HI
        generalize r.1 = f at *
        generalize cntL (r :: tl) = N at *
        generalize dropF (r :: tl) = d at *
        have e1 : wrap64 (N - 1) = N - 1 := w64 (by omega) (by omega)
        have nle : ¬ f ≤ last := by omega
        go_wp2_with fail
        refine Calls.mono C1.out ?_
        rintro e w1 ⟨rfl, b1⟩
        have RS1 : Aside (Row encP 2 w1 (.slice ao m c) (r :: tl)) := RS.out.below b1
        have RA1 : Aside (Row encP 2 w1 (.slice aoa a.length capa) a) := RA.out.below b1
        have HB1 : Hid (Below w.heap.size w w1) := HB.out.trans (b1.mono HB.out.size)
        clear b1 RS RA HB C1
        have C2 : Hid (Calls Try.prog 20 #[.slice aoa a.length capa, .int .i64 f] w1 fun e w' => e = .returned (.bool true) ∧ Below w1.heap.size w1 w') := by
          show Calls _ _ _ _ _
          have := has_any _ a f w1 RA1.out (by omega)
          rw [K1.out] at this
          exact this
        go_wp2_with fail
        refine Calls.mono C2.out ?_
        rintro e w2 ⟨rfl, b2⟩
        have RS2 : Aside (Row encP 2 w2 (.slice ao m c) (r :: tl)) := RS1.out.below b2
        have RA2 : Aside (Row encP 2 w2 (.slice aoa a.length capa) a) := RA1.out.below b2
        have HB2 : Hid (Below w.heap.size w w2) := HB1.out.trans (b2.mono HB1.out.size)
        clear b2 RS1 RA1 HB1 C2
        have C3 : Hid (Calls Try.prog 18 #[.slice ao m c, .int .i64 f] w2 (Gives w2 d)) := by
          show Calls _ _ _ _ _
          have := remove_g _ (r :: tl) f w2 RS2.out (by have := LS.out; omega)
          rw [D1.out] at this
          exact this
        go_wp2_with fail
        refine Calls.mono C3.out ?_
        rintro e w3 ⟨ao3, n3, c3, rfl, r3, b3⟩
        have RS3 : Aside (Row encP 2 w3 (.slice ao3 n3 c3) d) := r3
        have RA3 : Aside (Row encP 2 w3 (.slice aoa a.length capa) a) := RA2.out.below b3
        have HB3 : Hid (Below w.heap.size w w3) := HB2.out.trans (b3.mono HB2.out.size)
        clear b3 r3 RS2 RA2 HB2 C3
        have C4 : Hid (Calls Try.prog 22 #[.slice ao3 n3 c3] w3 fun e w' => e = .returned (.int .i64 (N - 1)) ∧ Below w3.heap.size w3 w') := by
          show Calls _ _ _ _ _
          have := count_cn _ d w3 RS3.out D2.out (by have := D4.out; omega)
          rw [D3.out] at this
          exact this
        go_wp2_with fail
        refine Calls.mono C4.out ?_
        rintro e w4 ⟨rfl, b4⟩
        have RS4 : Aside (Row encP 2 w4 (.slice ao3 n3 c3) d) := RS3.out.below b4
        have RA4 : Aside (Row encP 2 w4 (.slice aoa a.length capa) a) := RA3.out.below b4
        have HB4 : Hid (Below w.heap.size w w4) := HB3.out.trans (b4.mono HB3.out.size)
        clear b4 RS3 RA3 HB3 C4
        go_wp2
        go_roundg (60 - (i + 1))
        case measure => omega
        case rel => exact ⟨i + 1, d, ao3, n3, c3, f, rfl, rfl, by rw [D3.out], by go_num, by omega, Nat.le_refl _, RS4, RA4, D2, D5, D4, HB4⟩
    · go_wp2
      go_ret
      exact ⟨rfl, HB.out⟩

theorem takes (va : Value) (a : List Pr) (n : Int) (w : World) (ha : Row encP 2 w va a) (_bn : -9223372036854775808 ≤ n ∧ n ≤ 9223372036854775807) : Calls Try.prog 8 #[va, .int .i64 n] w fun e w' => e = .returned (.bool true) ∧ Below w.heap.size w w' := by
  by_cases la : a.length ≤ 40
  rotate_left
  · exact takes.long_a va a n w ha  (by omega)
  exact takes.short va a n w ha la

end Go.Proofs.Ytoigljefajbofaa

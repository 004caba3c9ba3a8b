/-
  The walk of the document's Minus.
-/
import Derived.Test.YtoigljefajbofaaRnRef2
namespace Go.Proofs.Ytoigljefajbofaa
open Go.Shelf Go.RowKit Go.Lib Go.Sort

def cutStep (r : Pr) (nx : List Pr) (y : Pr) : List Pr := putL (putL nx (y.1, min y.2 (r.1 - 1))) (max y.1 (r.2 + 1), y.2)
theorem cutL_take {out : List Pr} {k : Nat} (r : Pr) (h : k < out.length) : cutL (out.take (k + 1)) r = cutStep r (cutL (out.take k) r) out[k]! := by
  unfold cutL; rw [take_next h, List.foldl_append]; rfl
theorem cutL_cn (out : List Pr) (r : Pr) (h0 : 0 ≤ r.1) (h1 : r.2 ≤ 4294967295) (h2 : r.1 ≤ r.2) (h : Cn out) : Cn (cutL out r) ∧ (cutL out r).length ≤ 2 * out.length := by
  obtain ⟨c1, _, c3⟩ := cut_fold out [] r h0 h1 h2 Cn.nil h.1
  exact ⟨c1, by simpa [cutL] using c3⟩
theorem mnL_take {a b : List Pr} {i : Nat} (h : i < b.length) : mnL a (b.take (i + 1)) = cutS (mnL a (b.take i)) b[i]! := by
  unfold mnL; rw [take_next h, List.foldl_append]; rfl

theorem rput_to (v : Value) (l : List Pr) (x : Pr) (w : World) (h : Row encP 2 w v l) (hl : l.length ≤ 50000) (hc : Cn l) :
    Calls Try.prog 27 #[v, .agg #[.int .i64 x.1, .int .i64 x.2]] w fun e w' => ∃ ao n c, e = .returned (.slice ao n c) ∧ Row encP 2 w' (.slice ao n c) (putL l x) ∧ Below w.heap.size w w' :=
  (rput_any v l x w h hl hc).mono fun e w' h => by
    obtain ⟨v', rfl, hr, hb⟩ := h
    obtain ⟨ao, c, rfl, _⟩ := id hr
    exact ⟨ao, _, c, rfl, hr, hb⟩

set_option maxHeartbeats 4000000 in
set_option maxRecDepth 100000 in
theorem rminus_any (va vb : Value) (a b : List Pr) (w : World) (ha : Row encP 2 w va a) (hb : Row encP 2 w vb b) (hl : a.length ≤ 10000) (hl2 : b.length ≤ 10000) :
    Calls Try.prog 14 #[va, vb] w fun e w' => ∃ v', e = .returned v' ∧ Row encP 2 w' v' (mnL a b) ∧ Below w.heap.size w w' := by
  have C : Hid _ := rnorm_any va a w ha (by omega)
  have L0 := nmL_length a
  obtain ⟨ba, bc, rfl, h1, h2, h3⟩ := hb
  have H3 : Aside (b ≠ [] → ∃ b' off, ba = some ⟨b', off, none⟩ ∧ b' < w.heap.size ∧ CellsK encP 2 w b' off b) := h3
  clear h3 ha
  go_enter Try.func14, Try.ntmps14
  go_wp2_with (go_at_call 12; refine Calls.mono C.out ?_; rintro e w1 ⟨v1, rfl, hr1, hb1⟩)
  obtain ⟨ao, cap, rfl, _⟩ := id hr1
  have R1 : Aside (Row encP 2 w1 (.slice ao (nmL a).length cap) (nmL a)) := hr1
  have B1 : Hid (Below w.heap.size w w1) := hb1
  clear hr1 hb1 C
  go_loopg [5, 6] b.length (fun kx s5 s6 wr => ∃ (i : Nat) (ao' : Option Addr) (n' c' : Nat), s5 = .slice ao' n' c' ∧ s6 = .int .i64 i ∧ i ≤ b.length ∧ b.length - i ≤ kx ∧ Aside (Row encP 2 wr (.slice ao' n' c') (mnL a (b.take i))) ∧ Hid (Below w.heap.size w wr))
  case atStart => exact ⟨0, ao, _, cap, rfl, rfl, Nat.zero_le _, Nat.le_refl _, R1, B1⟩
  case round =>
    clear R1 B1
    obtain ⟨i, ao', n', c', rfl, rfl, hi, hki, HR, HB⟩ := hrel
    by_cases hil : i < b.length
    · have hilz : (i : Int) < (b.length : Int) := by omega
      obtain ⟨b', off, rfl, hb', x1, x2⟩ := row_at H3.out i hil HB.out
      have T : Hid (mnL a (b.take (i + 1)) = cutS (mnL a (b.take i)) b[i]!) := mnL_take hil
      have LO : (mnL a (b.take i)).length ≤ 20002 := by have := mnL_length a (b.take i); simp at this; omega
      have CO : Hid (Cn (mnL a (b.take i))) := mnL_cn _ _
      generalize mnL a (b.take i) = out at *
      generalize b[i]! = x at *
      have C : Hid _ := rclip_any x wr
      obtain ⟨r, hr⟩ : ∃ r, clipR x = r := ⟨_, rfl⟩
      have BR : 0 ≤ r.1 ∧ r.2 ≤ 4294967295 := by rw [← hr]; simp only [clipR]; omega
      rw [hr] at C
      by_cases hok : r.1 ≤ r.2
      · rw [decide_eq_true hok] at C
        have T2 : Hid (mnL a (b.take (i + 1)) = cutL out r) := by show _ = _; rw [T.out, cutS, hr, if_pos hok]
        have hrr := hr
        clear hr T hrr
        go_wp2_with (go_at_call 29; refine Calls.mono C.out ?_; rintro e w2 ⟨rfl, hg⟩)
        have B2 : Hid (Below w.heap.size w (w2.alloc (.cells #[.int .i64 r.1, .int .i64 r.2] 29))) := (HB.out.trans (hg.below.mono HB.out.size)).alloc (Nat.le_trans HB.out.size hg.below.size) _
        have R2 : Aside (Row encP 2 (w2.alloc (.cells #[.int .i64 r.1, .int .i64 r.2] 29)) (.slice ao' n' c') out) := (HR.out.below hg.below).below ((Below.refl _ _).alloc (Nat.le_refl _) _)
        have P2 : Hid (Cl (w2.alloc (.cells #[.int .i64 r.1, .int .i64 r.2] 29)) w2.heap.size #[.int .i64 r.1, .int .i64 r.2] 29) := Cl.new _ _ _
        clear hg HB HR C x1 x2
        generalize w2.alloc (.cells #[.int .i64 r.1, .int .i64 r.2] 29) = W at *
        generalize w2.heap.size = p at *
        obtain ⟨ao3, c3, e3, q1, q2, q3⟩ := id R2.out
        cases e3
        have Q3 : Aside (out ≠ [] → ∃ b off, ao' = some ⟨b, off, none⟩ ∧ b < W.heap.size ∧ CellsK encP 2 W b off out) := q3
        clear q3
        have ER1 : wrap64 (r.1 - 1) = r.1 - 1 := w64 (by omega) (by omega)
        have ER2 : wrap64 (r.2 + 1) = r.2 + 1 := w64 (by omega) (by omega)
        go_wp2
        go_loopg [9, 10] out.length (fun kx s9 s10 wr => ∃ (k : Nat) (ao9 : Option Addr) (n9 c9 : Nat), s9 = .slice ao9 n9 c9 ∧ s10 = .int .i64 k ∧ k ≤ out.length ∧ out.length - k ≤ kx ∧ Aside (Row encP 2 wr (.slice ao9 n9 c9) (cutL (out.take k) r)) ∧ Hid (Below W.heap.size W wr))
        case atStart => exact ⟨0, none, 0, 0, rfl, rfl, Nat.zero_le _, Nat.le_refl _, Own.nil.row (base := 0), Below.refl _ _⟩
        case round =>
          obtain ⟨k, ao9, n9, c9, rfl, rfl, hk, hkk, HN, HW⟩ := hrel
          by_cases hkl : k < out.length
          · have hklz : (k : Int) < (out.length : Int) := by omega
            obtain ⟨b4, off4, rfl, hb4, y1, y2⟩ := row_at Q3.out k hkl HW.out
            have TK : Hid (cutL (out.take (k + 1)) r = cutStep r (cutL (out.take k) r) out[k]!) := cutL_take r hkl
            obtain ⟨g1, g2⟩ := cutL_cn (out.take k) r BR.1 BR.2 hok (CO.out.take k)
            have G1 : Hid (Cn (cutL (out.take k) r)) := g1
            have g3 : (cutL (out.take k) r).length ≤ 40004 := by simp at g2; omega
            have PW : Hid (Cl wr p #[.int .i64 r.1, .int .i64 r.2] 29) := P2.out.on HW.out
            have p0 := PW.out.two.1
            have p1 := PW.out.two.2
            generalize out[k]! = y at *
            clear g1 g2
            generalize cutL (out.take k) r = nx at *
            have W1 : Hid (IntKind.i64.wrap (r.1 - 1) = r.1 - 1) := by show _ = _; rw [IntKind.wrap_i64]; omega
            have W2 : Hid (IntKind.i64.wrap (r.2 + 1) = r.2 + 1) := by show _ = _; rw [IntKind.wrap_i64]; omega
            have C1 : Hid (Calls Try.prog 27 #[.slice ao9 n9 c9, .agg #[.int .i64 y.1, .int .i64 (min y.2 (IntKind.i64.wrap (r.1 - 1)))]] wr.drew fun e w' => ∃ ao n c, e = .returned (.slice ao n c) ∧ Row encP 2 w' (.slice ao n c) (putL nx (y.1, min y.2 (r.1 - 1))) ∧ Below wr.heap.size wr.drew w') := by
              show Calls _ _ _ _ _
              rw [W1.out]
              exact rput_to _ nx (y.1, min y.2 (r.1 - 1)) wr.drew HN.out.drew (by omega) G1.out
            have D1 : Hid (Cn (putL nx (y.1, min y.2 (r.1 - 1))) ∧ (putL nx (y.1, min y.2 (r.1 - 1))).length ≤ 40005) := ⟨(putL_cn nx _ G1.out).1, by have := putL_length nx (y.1, min y.2 (r.1 - 1)); omega⟩
            have TK2 : Hid (cutL (out.take (k + 1)) r = putL (putL nx (y.1, min y.2 (r.1 - 1))) (max y.1 (r.2 + 1), y.2)) := TK.out
            have hlt4 : b4 < wr.heap.size := Nat.lt_of_lt_of_le hb4 HW.out.size
            have hplt : p < wr.heap.size := PW.out.lt
            clear HN TK PW
            generalize putL nx (y.1, min y.2 (r.1 - 1)) = nx2 at *
            go_wp2_with fail
            have z1 : wr.drew.cell? ⟨b4, off4 + k * 2, none⟩ = some (.int .i64 y.1) := y1
            have z2 : wr.drew.cell? ⟨b4, off4 + k * 2 + 1, none⟩ = some (.int .i64 y.2) := y2
            have z3 : wr.drew.cell? ⟨p, 0, none⟩ = some (.int .i64 r.1) := p0
            have z4 : wr.drew.cell? ⟨p, 1, none⟩ = some (.int .i64 r.2) := p1
            clear y1 y2 p0 p1
            go_region_held3 (fun w' => w'.cell? ⟨b4, off4 + k * 2, none⟩ = some (.int .i64 y.1) ∧ w'.cell? ⟨b4, off4 + k * 2 + 1, none⟩ = some (.int .i64 y.2) ∧ w'.cell? ⟨p, 0, none⟩ = some (.int .i64 r.1)) (first | assumption | exact ⟨z1, z2, z3⟩ | exact ⟨t1, t2, t3⟩) ((go_at_call 27; refine Calls.mono C1.out ?_; rintro e w4 ⟨ao4, n4, c4, rfl, hr4, hb4⟩; have t1 := (hb4.cell (p := ⟨b4, off4 + k * 2, none⟩) hlt4).trans z1; have t2 := (hb4.cell (p := ⟨b4, off4 + k * 2 + 1, none⟩) hlt4).trans z2; have t3 := (hb4.cell (p := ⟨p, 0, none⟩) hplt).trans z3; have t4 := (hb4.cell (p := ⟨p, 1, none⟩) hplt).trans z4; have hz4 := hb4.size; have R4 : Aside (Row encP 2 w4.drew (.slice ao4 n4 c4) nx2) := hr4.drew; have B4 : Hid (Below W.heap.size W w4.drew) := ((HW.out.drew).trans (hb4.mono HW.out.size)).drew; clear hr4 hb4))
            clear z1 z2 z3 z4 HW C1
            have C2 : Hid (Calls Try.prog 27 #[.slice ao4 n4 c4, .agg #[.int .i64 (max y.1 (IntKind.i64.wrap (r.2 + 1))), .int .i64 y.2]] w4.drew fun e w' => ∃ ao n c, e = .returned (.slice ao n c) ∧ Row encP 2 w' (.slice ao n c) (putL nx2 (max y.1 (r.2 + 1), y.2)) ∧ Below w4.heap.size w4.drew w') := by
              show Calls _ _ _ _ _
              rw [W2.out]
              exact rput_to _ nx2 (max y.1 (r.2 + 1), y.2) w4.drew R4.out (by have := D1.out.2; omega) D1.out.1
            rw [← TK2.out] at C2
            go_wp2_with fail
            have z1 : w4.drew.cell? ⟨b4, off4 + k * 2, none⟩ = some (.int .i64 y.1) := t1
            have z2 : w4.drew.cell? ⟨b4, off4 + k * 2 + 1, none⟩ = some (.int .i64 y.2) := t2
            have z4 : w4.drew.cell? ⟨p, 1, none⟩ = some (.int .i64 r.2) := t4
            have hlt5 : b4 < w4.heap.size := Nat.lt_of_lt_of_le hlt4 hz4
            have hplt5 : p < w4.heap.size := Nat.lt_of_lt_of_le hplt hz4
            clear t1 t2 t3 t4 R4
            go_region_held3 (fun w' => w'.cell? ⟨b4, off4 + k * 2, none⟩ = some (.int .i64 y.1) ∧ w'.cell? ⟨b4, off4 + k * 2 + 1, none⟩ = some (.int .i64 y.2) ∧ w'.cell? ⟨p, 1, none⟩ = some (.int .i64 r.2)) (first | assumption | exact ⟨z1, z2, z4⟩ | exact ⟨t1, t2, t4⟩) ((go_at_call 27; refine Calls.mono C2.out ?_; rintro e w5 ⟨ao5, n5, c5, rfl, hr5, hb5⟩; have t1 := (hb5.cell (p := ⟨b4, off4 + k * 2, none⟩) hlt5).trans z1; have t2 := (hb5.cell (p := ⟨b4, off4 + k * 2 + 1, none⟩) hlt5).trans z2; have t4 := (hb5.cell (p := ⟨p, 1, none⟩) hplt5).trans z4; have R5 : Aside (Row encP 2 w5 (.slice ao5 n5 c5) (cutL (out.take (k + 1)) r)) := hr5; have B5 : Hid (Below W.heap.size W w5) := B4.out.trans (hb5.mono B4.out.size); clear hr5 hb5))
            go_wp2
            go_roundg (out.length - (k + 1))
            case measure => omega
            case rel => exact ⟨k + 1, ao5, n5, c5, rfl, by go_num, by omega, Nat.le_refl _, R5, B5⟩
          · have hklz : ¬ (k : Int) < (out.length : Int) := by omega
            obtain rfl : k = out.length := by omega
            rw [List.take_length, ← T2.out] at HN
            have B6 : Hid (Below w.heap.size w wr) := B2.out.trans (HW.out.mono B2.out.size)
            go_wp2
            go_roundg (b.length - (i + 1))
            case measure => omega
            case rel => exact ⟨i + 1, ao9, n9, c9, rfl, by go_num, by omega, Nat.le_refl _, HN, B6⟩
      · rw [decide_eq_false hok] at C
        have T2 : Hid (mnL a (b.take (i + 1)) = out) := by show _ = _; rw [T.out, cutS, hr, if_neg hok]
        clear hr T
        go_wp2_with (go_at_call 29; refine Calls.mono C.out ?_; rintro e w2 ⟨rfl, hg⟩)
        have B2 : Hid (Below w.heap.size w (w2.alloc (.cells #[.int .i64 r.1, .int .i64 r.2] 29))) := (HB.out.trans (hg.below.mono HB.out.size)).alloc (Nat.le_trans HB.out.size hg.below.size) _
        have R2 : Aside (Row encP 2 (w2.alloc (.cells #[.int .i64 r.1, .int .i64 r.2] 29)) (.slice ao' n' c') out) := (HR.out.below hg.below).below ((Below.refl _ _).alloc (Nat.le_refl _) _)
        clear hg HB HR C
        go_roundg (b.length - (i + 1))
        case measure => omega
        case rel => exact ⟨i + 1, ao', n', c', rfl, by go_num, by omega, Nat.le_refl _, by rw [T2.out]; exact R2, B2⟩
    · have hilz : ¬ (i : Int) < (b.length : Int) := by omega
      obtain rfl : i = b.length := by omega
      rw [List.take_length] at HR
      go_wp2
      go_ret
      exact ⟨_, rfl, HR.out, HB.out⟩

end Go.Proofs.Ytoigljefajbofaa

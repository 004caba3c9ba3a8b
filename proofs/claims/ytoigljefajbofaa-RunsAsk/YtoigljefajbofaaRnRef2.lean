/-
  The walks of the document's Norm and Count.
-/
import Derived.Test.YtoigljefajbofaaRnPut
namespace Go.Proofs.Ytoigljefajbofaa
open Go.Shelf Go.RowKit Go.Lib Go.Sort

theorem Row.drew {w : World} {v : Value} {l : List Pr} (h : Row encP 2 w v l) : Row encP 2 w.drew v l := h.below (Below.refl _ w).drew

theorem nmL_snoc (l : List Pr) (x : Pr) : nmL (l ++ [x]) = putL (nmL l) x := by rw [nmL, List.foldl_append]; rfl

set_option maxHeartbeats 2000000 in
set_option maxRecDepth 100000 in
theorem rnorm_any (v : Value) (l : List Pr) (w : World) (h : Row encP 2 w v l) (hl : l.length ≤ 40000) :
    Calls Try.prog 12 #[v] w fun e w' => ∃ v', e = .returned v' ∧ Row encP 2 w' v' (nmL l) ∧ Below w.heap.size w w' := by
  obtain ⟨ao, cap, rfl, h1, h2, h3⟩ := h
  have H3 : Aside (l ≠ [] → ∃ b off, ao = some ⟨b, off, none⟩ ∧ b < w.heap.size ∧ CellsK encP 2 w b off l) := h3
  clear h3
  go_enter Try.func12, Try.ntmps12
  go_wp2
  go_loopg [3, 4] l.length (fun kx s3 s4 wr => ∃ (i : Nat) (ao' : Option Addr) (n' c' : Nat), s3 = .slice ao' n' c' ∧ s4 = .int .i64 i ∧ i ≤ l.length ∧ l.length - i ≤ kx ∧ Aside (Row encP 2 wr (.slice ao' n' c') (nmL (l.take i))) ∧ Hid (Below w.heap.size w wr))
  case atStart => exact ⟨0, none, 0, 0, rfl, rfl, Nat.zero_le _, Nat.le_refl _, Own.nil.row (base := 0), Below.refl _ _⟩
  case round =>
    obtain ⟨i, ao', n', c', rfl, rfl, hi, hki, HR, HB⟩ := hrel
    by_cases hil : i < l.length
    · have hilz : (i : Int) < (l.length : Int) := by omega
      obtain ⟨b, off, rfl, hb, x1, x2⟩ := row_at H3.out i hil HB.out
      have T : Hid (nmL (l.take (i + 1)) = putL (nmL (l.take i)) l[i]!) := by show _ = _; rw [take_next hil, nmL_snoc]
      generalize l[i]! = x at *
      have C : Hid _ := rput_any _ _ x wr HR.out (by have := nmL_length (l.take i); simp at this; omega) (nmL_cn _)
      rw [← T.out] at C
      clear HR T
      go_wp2_with (go_at_call 27; refine Calls.mono C.out ?_; rintro e w2 ⟨v2, rfl, hr2, hb2⟩)
      obtain ⟨ao2, c2, rfl, q2⟩ := id hr2
      have R2 : Aside (Row encP 2 w2 (.slice ao2 (nmL (l.take (i + 1))).length c2) (nmL (l.take (i + 1)))) := hr2
      have B2 : Hid (Below w.heap.size w w2) := HB.out.trans (hb2.mono HB.out.size)
      clear hr2 hb2 q2 C HB
      go_wp2
      go_roundg (l.length - (i + 1))
      case measure => omega
      case rel => exact ⟨i + 1, ao2, _, c2, rfl, by go_num, by omega, Nat.le_refl _, R2, B2⟩
    · have hilz : ¬ (i : Int) < (l.length : Int) := by omega
      obtain rfl : i = l.length := by omega
      rw [List.take_length] at HR
      go_wp2
      go_ret
      exact ⟨_, rfl, HR.out, HB.out⟩

set_option maxHeartbeats 2000000 in
set_option maxRecDepth 100000 in
theorem rcount_any (v : Value) (l : List Pr) (w : World) (h : Row encP 2 w v l) (hl : l.length ≤ 40000) :
    Calls Try.prog 23 #[v] w fun e w' => e = .returned (.int .i64 (cntL (nmL l))) ∧ Below w.heap.size w w' := by
  have C : Hid _ := rnorm_any v l w h hl
  have hl2 := nmL_length l
  have HC : Hid (Cn (nmL l)) := nmL_cn l
  generalize nmL l = s at *
  clear h
  go_enter Try.func23, Try.ntmps23
  go_wp2_with (go_at_call 12; refine Calls.mono C.out ?_; rintro e w1 ⟨v1, rfl, ⟨ao, cap, rfl, h1, h2, h3⟩, hb1⟩)
  have H3 : Aside (s ≠ [] → ∃ b off, ao = some ⟨b, off, none⟩ ∧ b < w1.heap.size ∧ CellsK encP 2 w1 b off s) := h3
  have B1 : Hid (Below w.heap.size w w1) := hb1
  clear h3 hb1 C
  go_loopg [3, 5] s.length (fun kx s3 s5 wr => ∃ (i : Nat), s3 = .int .i64 (cntL (s.take i)) ∧ s5 = .int .i64 i ∧ i ≤ s.length ∧ s.length - i ≤ kx ∧ Hid (Below w1.heap.size w1 wr))
  case atStart => exact ⟨0, rfl, rfl, Nat.zero_le _, Nat.le_refl _, Below.refl _ _⟩
  case round =>
    obtain ⟨i, rfl, rfl, hi, hki, HB⟩ := hrel
    by_cases hil : i < s.length
    · have hilz : (i : Int) < (s.length : Int) := by omega
      obtain ⟨b, off, rfl, hb, x1, x2⟩ := row_at H3.out i hil HB.out
      have T : Hid (cntL (s.take (i + 1)) = cntL (s.take i) + s[i]!.2 - s[i]!.1 + 1) := by show _ = _; rw [take_next hil, cnt_snoc]
      obtain ⟨y1, y2, y3⟩ := HC.out.1 s[i]! (bang_mem hil)
      obtain ⟨k1, k2⟩ := cnt_le (HC.out.take i)
      generalize s[i]! = x at *
      generalize hn : cntL (s.take i) = n at *
      have e1 : wrap64 (n + x.2) = n + x.2 := w64 (by omega) (by omega)
      have e2 : wrap64 (n + x.2 - x.1) = n + x.2 - x.1 := w64 (by omega) (by omega)
      have e3 : wrap64 (n + x.2 - x.1 + 1) = n + x.2 - x.1 + 1 := w64 (by omega) (by omega)
      have HD : Hid (Below w1.heap.size w1 wr.drew) := HB.out.drew
      go_wp2_with fail
      go_region
      all_goals go_wp2
      all_goals go_roundg (s.length - (i + 1))
      case measure => omega
      case rel => exact ⟨i + 1, by rw [T.out], by go_num, by omega, Nat.le_refl _, HD⟩
    · have hilz : ¬ (i : Int) < (s.length : Int) := by omega
      obtain rfl : i = s.length := by omega
      rw [List.take_length]
      go_wp2
      go_ret
      exact ⟨rfl, B1.out.trans (HB.out.mono B1.out.size)⟩

end Go.Proofs.Ytoigljefajbofaa

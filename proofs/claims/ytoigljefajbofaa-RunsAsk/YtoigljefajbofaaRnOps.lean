/-
  The walks of package runs' Union, Minus, Meet, Add, Remove, Count.
-/
import Derived.Test.YtoigljefajbofaaRnConcat
import Derived.Test.YtoigljefajbofaaRnMeet
import Derived.Test.YtoigljefajbofaaRnRest
import Derived.Test.YtoigljefajbofaaRnRef2
namespace Go.Proofs.Ytoigljefajbofaa
open Go.Shelf Go.RowKit Go.Lib Go.Sort

/-- What a call answers: a new row that holds l. -/
def Gives (w : World) (l : List Pr) (e : Ending) (w' : World) : Prop := ∃ ao n c, e = .returned (.slice ao n c) ∧ Row encP 2 w' (.slice ao n c) l ∧ Below w.heap.size w w'

theorem gives_of {w : World} {l : List Pr} {e : Ending} {w' : World} (h : ∃ v', e = .returned v' ∧ Own encP 2 w.heap.size w' v' l ∧ Below w.heap.size w w') : Gives w l e w' := by
  obtain ⟨v', rfl, ho, hb⟩ := h
  obtain ⟨ao, c, rfl, _⟩ := id ho
  exact ⟨ao, _, c, rfl, ho.row, hb⟩

theorem gives_row {w : World} {l : List Pr} {e : Ending} {w' : World} (h : ∃ v', e = .returned v' ∧ Row encP 2 w' v' l ∧ Below w.heap.size w w') : Gives w l e w' := by
  obtain ⟨v', rfl, ho, hb⟩ := h
  obtain ⟨ao, c, rfl, _⟩ := id ho
  exact ⟨ao, _, c, rfl, ho, hb⟩

theorem norm_g (v : Value) (l : List Pr) (w : World) (h : Row encP 2 w v l) (hl : l.length ≤ 100000) : Calls Try.prog 11 #[v] w (Gives w (nmL l)) := (norm_any v l w h hl).mono fun _ _ h => gives_of h
theorem rnorm_g (v : Value) (l : List Pr) (w : World) (h : Row encP 2 w v l) (hl : l.length ≤ 40000) : Calls Try.prog 12 #[v] w (Gives w (nmL l)) := (rnorm_any v l w h hl).mono fun _ _ h => gives_row h

set_option maxHeartbeats 1000000 in
theorem union_g (va vb : Value) (a b : List Pr) (w : World) (ha : Row encP 2 w va a) (hb : Row encP 2 w vb b) (hl : a.length + b.length ≤ 100000) :
    Calls Try.prog 13 #[va, vb] w (Gives w (unL a b)) := by
  have B0 : Hid (Below w.heap.size w (w.alloc (.cells #[va, vb] 22))) := (Below.refl _ w).alloc (Nat.le_refl _) _
  have hz : (w.alloc (.cells #[va, vb] 22)).heap.size = w.heap.size + 1 := by simp
  have C : Hid (Calls Try.prog 28 #[.slice (some ⟨w.heap.size, 0, none⟩) 2 2] (w.alloc (.cells #[va, vb] 22)) fun e w' => ∃ v', e = .returned v' ∧ Own encP 2 (w.heap.size + 1) w' v' (a ++ b) ∧ Below (w.heap.size + 1) (w.alloc (.cells #[va, vb] 22)) w') := by
    have := concat_any w.heap.size va vb a b (w.alloc (.cells #[va, vb] 22)) (Cl.new _ _ _) (ha.below B0.out) (hb.below B0.out) hl
    rw [hz] at this
    exact this
  have hl2 : (a ++ b).length ≤ 100000 := by simp; omega
  obtain ⟨aa, ca, rfl, _⟩ := ha
  obtain ⟨ab, cb, rfl, _⟩ := hb
  go_enter Try.func13, Try.ntmps13
  go_wp2_with (go_at_call 28; refine Calls.mono C.out ?_; rintro e w1 ⟨v1, rfl, ho1, hb1⟩; have N : Hid (Calls Try.prog 11 #[v1] w1 (Gives w1 (nmL (a ++ b)))) := norm_g v1 (a ++ b) w1 ho1.row hl2; clear ho1)
  go_wp2_with (go_at_call 11; refine Calls.mono N.out ?_; rintro e w2 ⟨ao2, n2, c2, rfl, r2, hb2⟩)
  go_ret
  exact ⟨_, _, _, rfl, r2, (B0.out.trans (hb1.mono (by omega))).trans (hb2.mono (by have := hb1.size; omega))⟩

set_option maxHeartbeats 1000000 in
theorem meet_g (va vb : Value) (a b : List Pr) (w : World) (ha : Row encP 2 w va a) (hb : Row encP 2 w vb b) (hl : a.length + b.length ≤ 50000) :
    Calls Try.prog 16 #[va, vb] w (Gives w (meL a b)) := by
  have N1 : Hid (Calls Try.prog 11 #[va] w (Gives w (nmL a))) := norm_g va a w ha (by omega)
  have RB : Aside (Row encP 2 w vb b) := hb
  have l1 := nmL_length a
  have l2 := nmL_length b
  obtain ⟨aa, ca, rfl, _⟩ := ha
  obtain ⟨ab, cb, rfl, _⟩ := hb
  go_enter Try.func16, Try.ntmps16
  go_wp2_with fail
  refine Calls.mono N1.out ?_
  rintro e w1 ⟨ao1, n1, c1, rfl, r1, b1⟩
  have N2 : Hid (Calls Try.prog 11 #[.slice ab b.length cb] w1 (Gives w1 (nmL b))) := norm_g _ b w1 (RB.out.below b1) (by omega)
  have R1 : Aside (Row encP 2 w1 (.slice ao1 n1 c1) (nmL a)) := r1
  have B1 : Hid (Below w.heap.size w w1) := b1
  clear r1 b1 N1 RB
  go_wp2_with fail
  refine Calls.mono N2.out ?_
  rintro e w2 ⟨ao2, n2, c2, rfl, r2, b2⟩
  have M : Hid (Calls Try.prog 30 #[.slice ao1 n1 c1, .slice ao2 n2 c2] w2 (Gives w2 (meL (nmL a) (nmL b)))) := (meet_any _ _ _ _ w2 (R1.out.below b2) r2 (nmL_cn a) (nmL_cn b) (by omega)).mono fun _ _ h => gives_of h
  have B2 : Hid (Below w.heap.size w w2) := B1.out.trans (b2.mono B1.out.size)
  clear r2 b2 N2 R1 B1
  go_wp2_with fail
  refine Calls.mono M.out ?_
  rintro e w3 ⟨ao3, n3, c3, rfl, r3, b3⟩
  rw [meL_nm] at r3
  go_wp2
  go_ret
  exact ⟨_, _, _, rfl, r3, B2.out.trans (b3.mono B2.out.size)⟩

set_option maxHeartbeats 1000000 in
theorem minus_g (va vb : Value) (a b : List Pr) (w : World) (ha : Row encP 2 w va a) (hb : Row encP 2 w vb b) (hl : a.length + b.length ≤ 50000) :
    Calls Try.prog 15 #[va, vb] w (Gives w (mnL a b)) := by
  have N1 : Hid (Calls Try.prog 11 #[va] w (Gives w (nmL a))) := norm_g va a w ha (by omega)
  have RB : Aside (Row encP 2 w vb b) := hb
  have l1 := nmL_length a
  have l2 := nmL_length b
  obtain ⟨aa, ca, rfl, _⟩ := ha
  obtain ⟨ab, cb, rfl, _⟩ := hb
  go_enter Try.func15, Try.ntmps15
  go_wp2_with fail
  refine Calls.mono N1.out ?_
  rintro e w1 ⟨ao1, n1, c1, rfl, r1, b1⟩
  have N2 : Hid (Calls Try.prog 11 #[.slice ab b.length cb] w1 (Gives w1 (nmL b))) := norm_g _ b w1 (RB.out.below b1) (by omega)
  have R1 : Aside (Row encP 2 w1 (.slice ao1 n1 c1) (nmL a)) := r1
  have B1 : Hid (Below w.heap.size w w1) := b1
  clear r1 b1 N1 RB
  go_wp2_with fail
  refine Calls.mono N2.out ?_
  rintro e w2 ⟨ao2, n2, c2, rfl, r2, b2⟩
  have N3 : Hid (Calls Try.prog 31 #[.slice ao2 n2 c2] w2 (Gives w2 (restL (nmL b)))) := (rest_any _ _ w2 r2 (by omega) (nmL_cn b)).mono fun _ _ h => gives_of h
  have R2 : Aside (Row encP 2 w2 (.slice ao1 n1 c1) (nmL a)) := R1.out.below b2
  have B2 : Hid (Below w.heap.size w w2) := B1.out.trans (b2.mono B1.out.size)
  clear r2 b2 N2 R1 B1
  go_wp2_with fail
  refine Calls.mono N3.out ?_
  rintro e w3 ⟨ao3, n3, c3, rfl, r3, b3⟩
  obtain ⟨q1, _, q3⟩ := restL_ok _ (nmL_cn b)
  have M : Hid (Calls Try.prog 30 #[.slice ao1 n1 c1, .slice ao3 n3 c3] w3 (Gives w3 (meL (nmL a) (restL (nmL b))))) := (meet_any _ _ _ _ w3 (R2.out.below b3) r3 (nmL_cn a) q1 (by omega)).mono fun _ _ h => gives_of h
  have B3 : Hid (Below w.heap.size w w3) := B2.out.trans (b3.mono B2.out.size)
  clear r3 b3 N3 R2 B2 q1 q3
  go_wp2_with fail
  refine Calls.mono M.out ?_
  rintro e w4 ⟨ao4, n4, c4, rfl, r4, b4⟩
  rw [meL_rest] at r4
  go_wp2
  go_ret
  exact ⟨_, _, _, rfl, r4, B3.out.trans (b4.mono B3.out.size)⟩

set_option maxHeartbeats 1000000 in
theorem add_g (va : Value) (a : List Pr) (n : Int) (w : World) (ha : Row encP 2 w va a) (hl : a.length ≤ 50000) :
    Calls Try.prog 17 #[va, .int .i64 n] w (Gives w (unL a [(n, n)])) := by
  have RA : Aside (Row encP 2 w va a) := ha
  have C : Hid (Calls Try.prog 32 #[.int .i64 n] w fun e w' => ∃ v, e = .returned v ∧ Row encP 2 w' v [(n, n)] ∧ Below w.heap.size w w') := single_any n w
  obtain ⟨aa, ca, rfl, _⟩ := ha
  go_enter Try.func17, Try.ntmps17
  go_wp2_with fail
  refine Calls.mono C.out ?_
  rintro e w1 ⟨v1, rfl, r1, b1⟩
  have N : Hid (Calls Try.prog 13 #[.slice aa a.length ca, v1] w1 (Gives w1 (unL a [(n, n)]))) := union_g _ _ a [(n, n)] w1 (RA.out.below b1) r1 (by simp; omega)
  have B1 : Hid (Below w.heap.size w w1) := b1
  obtain ⟨a1, c1, rfl, _⟩ := id r1
  clear r1 b1 C
  go_wp2_with fail
  refine Calls.mono N.out ?_
  rintro e w2 ⟨ao2, n2, c2, rfl, r2, b2⟩
  go_wp2
  go_ret
  exact ⟨_, _, _, rfl, r2, B1.out.trans (b2.mono B1.out.size)⟩

set_option maxHeartbeats 1000000 in
theorem remove_g (va : Value) (a : List Pr) (n : Int) (w : World) (ha : Row encP 2 w va a) (hl : a.length ≤ 40000) :
    Calls Try.prog 18 #[va, .int .i64 n] w (Gives w (mnL a [(n, n)])) := by
  have RA : Aside (Row encP 2 w va a) := ha
  have C : Hid (Calls Try.prog 32 #[.int .i64 n] w fun e w' => ∃ v, e = .returned v ∧ Row encP 2 w' v [(n, n)] ∧ Below w.heap.size w w') := single_any n w
  obtain ⟨aa, ca, rfl, _⟩ := ha
  go_enter Try.func18, Try.ntmps18
  go_wp2_with fail
  refine Calls.mono C.out ?_
  rintro e w1 ⟨v1, rfl, r1, b1⟩
  have N : Hid (Calls Try.prog 15 #[.slice aa a.length ca, v1] w1 (Gives w1 (mnL a [(n, n)]))) := minus_g _ _ a [(n, n)] w1 (RA.out.below b1) r1 (by simp; omega)
  have B1 : Hid (Below w.heap.size w w1) := b1
  obtain ⟨a1, c1, rfl, _⟩ := id r1
  clear r1 b1 C
  go_wp2_with fail
  refine Calls.mono N.out ?_
  rintro e w2 ⟨ao2, n2, c2, rfl, r2, b2⟩
  go_wp2
  go_ret
  exact ⟨_, _, _, rfl, r2, B1.out.trans (b2.mono B1.out.size)⟩

set_option maxHeartbeats 2000000 in
set_option maxRecDepth 100000 in
theorem count_any (v : Value) (l : List Pr) (w : World) (h : Row encP 2 w v l) (hl : l.length ≤ 100000) :
    Calls Try.prog 22 #[v] w fun e w' => e = .returned (.int .i64 (cntL (nmL l))) ∧ Below w.heap.size w w' := by
  have C : Hid (Calls Try.prog 11 #[v] w (Gives w (nmL l))) := norm_g v l w h hl
  have hl2 := nmL_length l
  have HC : Hid (Cn (nmL l)) := nmL_cn l
  generalize nmL l = s at *
  obtain ⟨aa, ca, rfl, _⟩ := h
  go_enter Try.func22, Try.ntmps22
  go_wp2_with (go_at_call 11; refine Calls.mono C.out ?_; rintro e w1 ⟨ao, n, cap, rfl, ⟨ao', cap', e', h1, h2, h3⟩, hb1⟩; cases e')
  have H3 : Aside (s ≠ [] → ∃ b off, ao = some ⟨b, off, none⟩ ∧ b < w1.heap.size ∧ CellsK encP 2 w1 b off s) := h3
  have B1 : Hid (Below w.heap.size w w1) := hb1
  clear h3 hb1 C
  go_loopg [3, 9] s.length (fun kx s3 s9 wr => ∃ (i : Nat), s3 = .int .i64 (cntL (s.take i)) ∧ s9 = .int .i64 i ∧ i ≤ s.length ∧ s.length - i ≤ kx ∧ Hid (Below w1.heap.size w1 wr))
  case atStart => exact ⟨0, rfl, rfl, Nat.zero_le _, Nat.le_refl _, Below.refl _ _⟩
  case round =>
    obtain ⟨i, rfl, rfl, hi, hki, HB⟩ := hrel
    by_cases hil : i < s.length
    · have hilz : (i : Int) < (s.length : Int) := by omega
      obtain ⟨b, off, rfl, hb, x1, x2⟩ := row_at H3.out i hil HB.out
      have T : Hid (cntL (s.take (i + 1)) = cntL (s.take i) + (s[i]!.2 - s[i]!.1 + 1)) := by show _ = _; rw [take_next hil, cnt_snoc]; omega
      obtain ⟨y1, y2, y3⟩ := HC.out.1 s[i]! (bang_mem hil)
      obtain ⟨k1, k2⟩ := cnt_le (HC.out.take i)
      generalize s[i]! = x at *
      generalize hn : cntL (s.take i) = n at *
      have e1 : wrap64 (x.2 - x.1) = x.2 - x.1 := w64 (by omega) (by omega)
      have e2 : wrap64 (x.2 - x.1 + 1) = x.2 - x.1 + 1 := w64 (by omega) (by omega)
      have e3 : wrap64 (n + (x.2 - x.1 + 1)) = n + (x.2 - x.1 + 1) := w64 (by omega) (by omega)
      have HD : Hid (Below w1.heap.size w1 (wr.alloc (.cells #[.int .i64 x.1, .int .i64 x.2] 29))) := HB.out.alloc HB.out.size _
      go_wp2
      go_roundg (s.length - (i + 1))
      case measure => omega
      case rel => exact ⟨i + 1, by rw [T.out], by go_num, by omega, Nat.le_refl _, HD⟩
    · have hilz : ¬ (i : Int) < (s.length : Int) := by omega
      obtain rfl : i = s.length := by omega
      rw [List.take_length]
      go_wp2
      go_ret
      exact ⟨rfl, B1.out.trans (HB.out.mono B1.out.size)⟩

end Go.Proofs.Ytoigljefajbofaa

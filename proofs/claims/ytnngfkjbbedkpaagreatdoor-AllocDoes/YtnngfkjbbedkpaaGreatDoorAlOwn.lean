/-
  Package runs' answers, in memory of their own.
-/
import Derived.Test.YtnngfkjbbedkpaaGreatDoorBRunsC
import Derived.Test.YtnngfkjbbedkpaaGreatDoorAlKit
namespace Go.Proofs.YtnngfkjbbedkpaaGreatDoor
open Go.Shelf Go.RowKit Go.Lib Go.Sort
set_option linter.unusedVariables false

theorem norm_o (v : Value) (l : List Pr) (w : World) (h : Row encP 2 w v l) (hl : l.length ≤ 100000) : Calls Tryz.prog 53 #[v] w (GivesO w (nmL l)) := (norm_any v l w h hl).mono fun _ _ h => givesO_of h

set_option maxHeartbeats 1000000 in
theorem union_o (va vb : Value) (a b : List Pr) (w : World) (ha : Row encP 2 w va a) (hb : Row encP 2 w vb b) (hl : a.length + b.length ≤ 100000) :
    Calls Tryz.prog 75 #[va, vb] w (GivesO w (unL a b)) := by
  have B0 : Hid (Below w.heap.size w (w.alloc (.cells #[va, vb] 22))) := (Below.refl _ w).alloc (Nat.le_refl _) _
  have hz : (w.alloc (.cells #[va, vb] 22)).heap.size = w.heap.size + 1 := by simp
  have C : Hid (Calls Tryz.prog 102 #[.slice (some ⟨w.heap.size, 0, none⟩) 2 2] (w.alloc (.cells #[va, vb] 22)) fun e w' => ∃ v', e = .returned v' ∧ Own encP 2 (w.heap.size + 1) w' v' (a ++ b) ∧ Below (w.heap.size + 1) (w.alloc (.cells #[va, vb] 22)) w') := by
    have := concat_any w.heap.size va vb a b (w.alloc (.cells #[va, vb] 22)) (Cl.new _ _ _) (ha.below B0.out) (hb.below B0.out) hl
    rw [hz] at this
    exact this
  have hl2 : (a ++ b).length ≤ 100000 := by simp; omega
  obtain ⟨aa, ca, rfl, _⟩ := ha
  obtain ⟨ab, cb, rfl, _⟩ := hb
  go_enter Tryz.func75, Tryz.ntmps75
  go_wp2_with (go_at_call 102; refine Calls.mono C.out ?_; rintro e w1 ⟨v1, rfl, ho1, hb1⟩; have N : Hid (Calls Tryz.prog 53 #[v1] w1 (GivesO w1 (nmL (a ++ b)))) := norm_o v1 (a ++ b) w1 ho1.row hl2; clear ho1)
  go_wp2_with (go_at_call 53; refine Calls.mono N.out ?_; rintro e w2 ⟨ao2, n2, c2, rfl, r2, hb2⟩)
  go_ret
  exact ⟨_, _, _, rfl, r2.mono (by have := hb1.size; omega), (B0.out.trans (hb1.mono (by omega))).trans (hb2.mono (by have := hb1.size; omega))⟩

set_option maxHeartbeats 1000000 in
theorem meet_o (va vb : Value) (a b : List Pr) (w : World) (ha : Row encP 2 w va a) (hb : Row encP 2 w vb b) (hl : a.length + b.length ≤ 50000) :
    Calls Tryz.prog 41 #[va, vb] w (GivesO w (meL a b)) := by
  have N1 : Hid (Calls Tryz.prog 53 #[va] w (Gives w (nmL a))) := norm_g va a w ha (by omega)
  have RB : Aside (Row encP 2 w vb b) := hb
  have l1 := nmL_length a
  have l2 := nmL_length b
  obtain ⟨aa, ca, rfl, _⟩ := ha
  obtain ⟨ab, cb, rfl, _⟩ := hb
  go_enter Tryz.func41, Tryz.ntmps41
  go_wp2_with fail
  refine Calls.mono N1.out ?_
  rintro e w1 ⟨ao1, n1, c1, rfl, r1, b1⟩
  have N2 : Hid (Calls Tryz.prog 53 #[.slice ab b.length cb] w1 (Gives w1 (nmL b))) := norm_g _ b w1 (RB.out.below b1) (by omega)
  have R1 : Aside (Row encP 2 w1 (.slice ao1 n1 c1) (nmL a)) := r1
  have B1 : Hid (Below w.heap.size w w1) := b1
  clear r1 b1 N1 RB
  go_wp2_with fail
  refine Calls.mono N2.out ?_
  rintro e w2 ⟨ao2, n2, c2, rfl, r2, b2⟩
  have M : Hid (Calls Tryz.prog 61 #[.slice ao1 n1 c1, .slice ao2 n2 c2] w2 (GivesO w2 (meL (nmL a) (nmL b)))) := (meet_any _ _ _ _ w2 (R1.out.below b2) r2 (nmL_cn a) (nmL_cn b) (by omega)).mono fun _ _ h => givesO_of h
  have B2 : Hid (Below w.heap.size w w2) := B1.out.trans (b2.mono B1.out.size)
  clear r2 b2 N2 R1 B1
  go_wp2_with fail
  refine Calls.mono M.out ?_
  rintro e w3 ⟨ao3, n3, c3, rfl, r3, b3⟩
  rw [meL_nm] at r3
  go_wp2
  go_ret
  exact ⟨_, _, _, rfl, r3.mono B2.out.size, B2.out.trans (b3.mono B2.out.size)⟩

set_option maxHeartbeats 1000000 in
theorem add_o (va : Value) (a : List Pr) (n : Int) (w : World) (ha : Row encP 2 w va a) (hl : a.length ≤ 50000) :
    Calls Tryz.prog 48 #[va, .int .i64 n] w (GivesO w (unL a [(n, n)])) := by
  have RA : Aside (Row encP 2 w va a) := ha
  have C : Hid (Calls Tryz.prog 76 #[.int .i64 n] w fun e w' => ∃ v, e = .returned v ∧ Row encP 2 w' v [(n, n)] ∧ Below w.heap.size w w') := single_any n w
  obtain ⟨aa, ca, rfl, _⟩ := ha
  go_enter Tryz.func48, Tryz.ntmps48
  go_wp2_with fail
  refine Calls.mono C.out ?_
  rintro e w1 ⟨v1, rfl, r1, b1⟩
  have N : Hid (Calls Tryz.prog 75 #[.slice aa a.length ca, v1] w1 (GivesO w1 (unL a [(n, n)]))) := union_o _ _ a [(n, n)] w1 (RA.out.below b1) r1 (by simp; omega)
  have B1 : Hid (Below w.heap.size w w1) := b1
  obtain ⟨a1, c1, rfl, _⟩ := id r1
  clear r1 b1 C
  go_wp2_with fail
  refine Calls.mono N.out ?_
  rintro e w2 ⟨ao2, n2, c2, rfl, r2, b2⟩
  go_wp2
  go_ret
  exact ⟨_, _, _, rfl, r2.mono B1.out.size, B1.out.trans (b2.mono B1.out.size)⟩

end Go.Proofs.YtnngfkjbbedkpaaGreatDoor

/-
  The walk of EntryHalves.
-/
import Derived.Test.YtkoonogfllndhabEnLaw
import Derived.Test.YtkoonogfllndhabEnOpen
namespace Go.Proofs.Ytkoonogfllndhab
open Go.Shelf Go.RowKit Go.Lib Go.Sort

set_option maxHeartbeats 4000000 in
set_option maxRecDepth 100000 in
theorem entryHalves_walk (v : Value) (l : List En) (w : World) (h : RowN w v l) :
    Calls Try.prog 3 #[v] w fun e w' => e = .returned (.bool true) ∧ Below w.heap.size w w' := by
  obtain ⟨hr, hln⟩ := h
  obtain ⟨ao, cap, rfl, hcap⟩ := hr.shape
  have R0l : Aside (Row encP 2 w (.slice ao l.length cap) l) := hr
  clear hr
  go_enter Try.func3, Try.ntmps3
  have C1x : Hid _ := works_any w
  go_wp2_with fail
  refine Calls.mono C1x.out ?_
  rintro e w1 ⟨rfl, hb1⟩
  clear C1x
  have B1 : Hid (Below w.heap.size w w1) := hb1
  have R1l : Aside (Row encP 2 w1 (.slice ao l.length cap) l) := R0l.out.below hb1
  clear R0l
  clear hb1
  have C2xx : Hid _ := over_any _ l w1 R1l.out
  go_wp2_with fail
  refine Calls.mono C2xx.out ?_
  rintro e w2x ⟨rfl, rfl⟩
  clear C2xx
  cases ho : ovB l with
  | true =>
    clear ho
    go_wp2
    go_ret
    exact ⟨rfl, B1.out⟩
  | false =>
    obtain ⟨hl60, _⟩ := ovB_no ho
    have hsz := ovB_sz ho
    clear ho
    by_cases h2 : l.length < 2
    ·
      have h2z : (l.length : Int) < 2 := by omega
      have C2x : Hid _ := half_any _ l w1 R1l.out (by omega) (by omega)
      rw [hfN_short h2] at C2x
      go_wp2_with fail
      refine Calls.mono C2x.out ?_
      rintro e w2 ⟨rfl, hb2⟩
      clear C2x
      have B2 : Hid (Below w.heap.size w w2) := B1.out.trans (hb2.mono B1.out.size)
      have R2l : Aside (Row encP 2 w2 (.slice ao l.length cap) l) := R1l.out.below hb2
      clear R1l
      clear hb2
      go_wp2
      go_ret
      exact ⟨rfl, B2.out⟩
    ·
      have h2z : ¬ (l.length : Int) < 2 := by omega
      obtain ⟨f1, f2, f3, f4⟩ := hfN_is (l := l) (by omega)
      have CH0 := half_any _ l w1 R1l.out (by omega) (by omega)
      obtain ⟨n, hn⟩ : ∃ n, hfN l = n := ⟨_, rfl⟩
      rw [hn] at f1 f2 f3 f4 CH0
      clear hn
      have C2x : Hid _ := CH0
      go_wp2_with fail
      refine Calls.mono C2x.out ?_
      rintro e w2 ⟨rfl, hb2⟩
      clear C2x
      have B2 : Hid (Below w.heap.size w w2) := B1.out.trans (hb2.mono B1.out.size)
      have R2l : Aside (Row encP 2 w2 (.slice ao l.length cap) l) := R1l.out.below hb2
      clear R1l
      clear hb2
      clear CH0
      have t1 := szL_take_le l n
      have t2 := szL_take_le l (n - 1)
      obtain ⟨S, hS⟩ : ∃ S, szL l = S := ⟨_, rfl⟩
      obtain ⟨f, hf⟩ : ∃ f, szL (l.take n) = f := ⟨_, rfl⟩
      obtain ⟨g, hg⟩ : ∃ g, szL (l.take (n - 1)) = g := ⟨_, rfl⟩
      rw [hS, hf] at t1 f3
      rw [hg, hS] at t2 f4
      rw [hS] at hsz
      have HS : Hid (szL l = S) := hS
      have HF : Hid (szL (l.take n) = f) := hf
      have HGg : Hid (szL (l.take (n - 1)) = g) := hg
      clear hS hf hg
      have n1 : ¬ (n : Int) < 1 := by omega
      have n2 : ¬ (l.length : Int) ≤ (n : Int) := by omega
      have C3xx : Hid _ := size_any _ l w2 R2l.out (by omega) (by rw [HS.out]; omega)
      rw [HS.out] at C3xx
      go_wp2_with fail
      refine Calls.mono C3xx.out ?_
      rintro e w3 ⟨rfl, hb3⟩
      clear C3xx
      have B3 : Hid (Below w.heap.size w w3) := B2.out.trans (hb3.mono B2.out.size)
      have R3l : Aside (Row encP 2 w3 (.slice ao l.length cap) l) := R2l.out.below hb3
      clear R2l
      clear hb3
      have e1 := run_pre ao l.length cap n (by omega)
      have C4xxx : Hid _ := size_any _ (l.take n) w3 (R3l.out.pre n (by omega)) (by simp; omega) (by rw [HF.out]; omega)
      rw [HF.out] at C4xxx
      go_wp2_with fail
      refine Calls.mono C4xxx.out ?_
      rintro e w4 ⟨rfl, hb4⟩
      clear C4xxx
      have B4 : Hid (Below w.heap.size w w4) := B3.out.trans (hb4.mono B3.out.size)
      have R4l : Aside (Row encP 2 w4 (.slice ao l.length cap) l) := R3l.out.below hb4
      clear R3l
      clear hb4
      obtain ⟨q, hq⟩ : ∃ q : Nat, (n : Int) - 1 = (q : Int) := ⟨n - 1, by omega⟩
      obtain rfl : n - 1 = q := by omega
      have HQ : Hid (szL (l.take (n - 1)) = g) := HGg
      generalize hqq : n - 1 = q at *
      clear HGg
      by_cases hc : S ≤ 2 * f
      ·
        have hcz : (S : Int) ≤ 2 * (f : Int) := by omega
        have hcd : decide ((S : Int) ≤ 2 * (f : Int)) = true := decide_eq_true hcz
        clear f3
        by_cases h1 : n = 1
        ·
          have h1z : ((n : Int) == 1) = true := by rw [beq_iff_eq]; omega
          clear h1 f4 hqq
          go_wp2
          go_ret
          exact ⟨rfl, B4.out⟩
        ·
          have h1z : ((n : Int) == 1) = false := by rw [beq_eq_false_iff_ne]; omega
          have g4 := f4.resolve_left h1
          have g4z : 2 * (g : Int) < (S : Int) := by omega
          have e2 := run_pre ao l.length cap q (by omega)
          clear h1 f4
          have C5x : Hid _ := size_any _ (l.take q) w4 (R4l.out.pre q (by omega)) (by simp; omega) (by rw [HQ.out]; omega)
          rw [HQ.out] at C5x
          go_wp2_with fail
          refine Calls.mono C5x.out ?_
          rintro e w5 ⟨rfl, hb5⟩
          clear C5x
          have B5 : Hid (Below w.heap.size w w5) := B4.out.trans (hb5.mono B4.out.size)
          have R5l : Aside (Row encP 2 w5 (.slice ao l.length cap) l) := R4l.out.below hb5
          clear R4l
          clear hb5
          go_wp2
          go_ret
          exact ⟨rfl, B5.out⟩
      ·
        have hcz : ¬ (S : Int) ≤ 2 * (f : Int) := by omega
        have hcd : decide ((S : Int) ≤ 2 * (f : Int)) = false := decide_eq_false hcz
        have hlast : n = l.length - 1 := f3.resolve_left hc
        have hlz : ((n : Int) == (l.length : Int) - 1) = true := by rw [beq_iff_eq]; omega
        clear hlast
        clear f3
        by_cases h1 : n = 1
        ·
          have h1z : ((n : Int) == 1) = true := by rw [beq_iff_eq]; omega
          clear h1 f4 hqq
          go_wp2
          go_ret
          exact ⟨rfl, B4.out⟩
        ·
          have h1z : ((n : Int) == 1) = false := by rw [beq_eq_false_iff_ne]; omega
          have g4 := f4.resolve_left h1
          have g4z : 2 * (g : Int) < (S : Int) := by omega
          have e2 := run_pre ao l.length cap q (by omega)
          clear h1 f4
          have C5x : Hid _ := size_any _ (l.take q) w4 (R4l.out.pre q (by omega)) (by simp; omega) (by rw [HQ.out]; omega)
          rw [HQ.out] at C5x
          go_wp2_with fail
          refine Calls.mono C5x.out ?_
          rintro e w5 ⟨rfl, hb5⟩
          clear C5x
          have B5 : Hid (Below w.heap.size w w5) := B4.out.trans (hb5.mono B4.out.size)
          have R5l : Aside (Row encP 2 w5 (.slice ao l.length cap) l) := R4l.out.below hb5
          clear R4l
          clear hb5
          go_wp2
          go_ret
          exact ⟨rfl, B5.out⟩

end Go.Proofs.Ytkoonogfllndhab

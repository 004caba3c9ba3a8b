/-
  The walk of EntrySizes.
-/
import Derived.Test.YtkoonogfllndhaaEnLaw
import Derived.Test.YtkoonogfllndhaaEnOpen
import Derived.Test.YtkoonogfllndhaaEnRef
namespace Go.Proofs.Ytkoonogfllndhaa
open Go.Shelf Go.RowKit Go.Lib Go.Sort

set_option maxHeartbeats 4000000 in
set_option maxRecDepth 100000 in
theorem entrySizes_walk (v : Value) (l : List En) (w : World) (h : RowN w v l) :
    Calls Try.prog 4 #[v] w fun e w' => e = .returned (.bool true) ∧ Below w.heap.size w w' := by
  obtain ⟨hr, hln⟩ := h
  obtain ⟨ao, cap, rfl, hcap⟩ := hr.shape
  have R0l : Aside (Row encP 2 w (.slice ao l.length cap) l) := hr
  clear hr
  go_enter Try.func4, Try.ntmps4
  have C1x : Hid _ := works_any w
  go_wp2_with fail
  refine Calls.mono C1x.out ?_
  rintro e w1 ⟨rfl, hb1⟩
  clear C1x
  have B1 : Hid (Below w.heap.size w w1) := hb1
  have R1l : Aside (Row encP 2 w1 (.slice ao l.length cap) l) := R0l.out.below hb1
  clear R0l
  clear hb1
  have C2xx : Hid _ := over_any _ l w1 R1l.out
  go_wp2_with fail
  refine Calls.mono C2xx.out ?_
  rintro e w2x ⟨rfl, rfl⟩
  clear C2xx
  cases ho : ovB l with
  | true =>
    clear ho
    go_wp2
    go_ret
    exact ⟨rfl, B1.out⟩
  | false =>
    obtain ⟨hl60, _⟩ := ovB_no ho
    have hsz := ovB_sz ho
    clear ho
    have C2x : Hid _ := half_any _ l w1 R1l.out (by omega) (by omega)
    go_wp2_with fail
    refine Calls.mono C2x.out ?_
    rintro e w2 ⟨rfl, hb2⟩
    clear C2x
    have B2 : Hid (Below w.heap.size w w2) := B1.out.trans (hb2.mono B1.out.size)
    have R2l : Aside (Row encP 2 w2 (.slice ao l.length cap) l) := R1l.out.below hb2
    clear R1l
    clear hb2
    cases hr : rgB l with
    | false =>
      have EE : ecE l = 1 := by unfold ecE; rw [hr]; rfl
      have C3x : Hid _ := encode_any _ l w2 R2l.out (by omega)
      rw [EE] at C3x
      go_wp2_with fail
      refine Calls.mono C3x.out ?_
      rintro e w3 ⟨rfl, hb3⟩
      clear C3x
      have B3 : Hid (Below w.heap.size w w3) := B2.out.trans (hb3.mono B2.out.size)
      have R3l : Aside (Row encP 2 w3 (.slice ao l.length cap) l) := R2l.out.below hb3
      clear R2l
      clear hb3
      generalize ecS l = sx at *
      clear EE hr
      have C4xx : Hid _ := size_any _ l w3 R3l.out (by omega) (by omega)
      go_wp2_with fail
      refine Calls.mono C4xx.out ?_
      rintro e w4 ⟨rfl, hb4⟩
      clear C4xx
      have B4 : Hid (Below w.heap.size w w4) := B3.out.trans (hb4.mono B3.out.size)
      have R4l : Aside (Row encP 2 w4 (.slice ao l.length cap) l) := R3l.out.below hb4
      clear R3l
      clear hb4
      have C5xxx : Hid _ := rsize_any _ l w4 R4l.out (by omega) (by omega)
      go_wp2_with fail
      refine Calls.mono C5xxx.out ?_
      rintro e w5 ⟨rfl, hb5⟩
      clear C5xxx
      have B5 : Hid (Below w.heap.size w w5) := B4.out.trans (hb5.mono B4.out.size)
      have R5l : Aside (Row encP 2 w5 (.slice ao l.length cap) l) := R4l.out.below hb5
      clear R4l
      clear hb5
      have C6xxxx : Hid _ := rhalf_any _ l w5 R5l.out (by omega) (by omega)
      go_wp2_with fail
      refine Calls.mono C6xxxx.out ?_
      rintro e w6 ⟨rfl, hb6⟩
      clear C6xxxx
      have B6 : Hid (Below w.heap.size w w6) := B5.out.trans (hb6.mono B5.out.size)
      have R6l : Aside (Row encP 2 w6 (.slice ao l.length cap) l) := R5l.out.below hb6
      clear R5l
      clear hb6
      go_wp2
      go_ret
      exact ⟨rfl, B6.out⟩
    | true =>
      have EE : ecE l = 0 := by unfold ecE; rw [hr]; rfl
      have ES : (ecS l).size = szL l := by unfold ecS; rw [hr, if_pos rfl, ba_size, enL_length]
      have C3x : Hid _ := encode_any _ l w2 R2l.out (by omega)
      rw [EE] at C3x
      go_wp2_with fail
      refine Calls.mono C3x.out ?_
      rintro e w3 ⟨rfl, hb3⟩
      clear C3x
      have B3 : Hid (Below w.heap.size w w3) := B2.out.trans (hb3.mono B2.out.size)
      have R3l : Aside (Row encP 2 w3 (.slice ao l.length cap) l) := R2l.out.below hb3
      clear R2l
      clear hb3
      generalize ecS l = sx at *
      clear EE hr
      have C4xx : Hid _ := size_any _ l w3 R3l.out (by omega) (by omega)
      go_wp2_with fail
      refine Calls.mono C4xx.out ?_
      rintro e w4 ⟨rfl, hb4⟩
      clear C4xx
      have B4 : Hid (Below w.heap.size w w4) := B3.out.trans (hb4.mono B3.out.size)
      have R4l : Aside (Row encP 2 w4 (.slice ao l.length cap) l) := R3l.out.below hb4
      clear R3l
      clear hb4
      have C5xxx : Hid _ := rsize_any _ l w4 R4l.out (by omega) (by omega)
      go_wp2_with fail
      refine Calls.mono C5xxx.out ?_
      rintro e w5 ⟨rfl, hb5⟩
      clear C5xxx
      have B5 : Hid (Below w.heap.size w w5) := B4.out.trans (hb5.mono B4.out.size)
      have R5l : Aside (Row encP 2 w5 (.slice ao l.length cap) l) := R4l.out.below hb5
      clear R4l
      clear hb5
      have C6xxxx : Hid _ := rhalf_any _ l w5 R5l.out (by omega) (by omega)
      go_wp2_with fail
      refine Calls.mono C6xxxx.out ?_
      rintro e w6 ⟨rfl, hb6⟩
      clear C6xxxx
      have B6 : Hid (Below w.heap.size w w6) := B5.out.trans (hb6.mono B5.out.size)
      have R6l : Aside (Row encP 2 w6 (.slice ao l.length cap) l) := R5l.out.below hb6
      clear R5l
      clear hb6
      have ESz : ((sx.size : Int) == (szL l : Int)) = true := by rw [ES]; simp
      have C7xxxxx : Hid _ := size_any _ l w6 R6l.out (by omega) (by omega)
      go_wp2_with fail
      refine Calls.mono C7xxxxx.out ?_
      rintro e w7 ⟨rfl, hb7⟩
      clear C7xxxxx
      have B7 : Hid (Below w.heap.size w w7) := B6.out.trans (hb7.mono B6.out.size)
      have R7l : Aside (Row encP 2 w7 (.slice ao l.length cap) l) := R6l.out.below hb7
      clear R6l
      clear hb7
      go_wp2
      go_ret
      exact ⟨rfl, B7.out⟩

end Go.Proofs.Ytkoonogfllndhaa

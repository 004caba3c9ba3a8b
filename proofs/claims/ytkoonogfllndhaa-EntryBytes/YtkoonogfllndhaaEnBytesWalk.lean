/-
  The walk of EntryBytes.
-/
import Derived.Test.YtkoonogfllndhaaEnKeep
import Derived.Test.YtkoonogfllndhaaEnOpen
import Derived.Test.YtkoonogfllndhaaEnRef2
import Derived.Test.YtkoonogfllndhaaEnRef3
namespace Go.Proofs.Ytkoonogfllndhaa
open Go.Shelf Go.RowKit Go.Lib Go.Sort

set_option maxHeartbeats 4000000 in
set_option maxRecDepth 100000 in
theorem entryBytes_walk (v : Value) (l : List En) (S : ByteArray) (w : World) (h : RowN w v l) (_hS : S.size ≤ maxLen) :
    Calls Try.prog 5 #[v, .string S] w fun e w' => e = .returned (.bool true) ∧ Below w.heap.size w w' := by
  obtain ⟨hr, hln⟩ := h
  obtain ⟨ao, cap, rfl, hcap⟩ := hr.shape
  have R0l : Aside (Row encP 2 w (.slice ao l.length cap) l) := hr
  clear hr
  go_enter Try.func5, Try.ntmps5
  have C1x : Hid _ := works_any w
  go_wp2_with fail
  refine Calls.mono C1x.out ?_
  rintro e w1 ⟨rfl, hb1⟩
  clear C1x
  have B1 : Hid (Below w.heap.size w w1) := hb1
  have R1l : Aside (Row encP 2 w1 (.slice ao l.length cap) l) := R0l.out.below hb1
  clear R0l
  clear hb1
  have C2xx : Hid _ := over_any _ l w1 R1l.out
  go_wp2_with fail
  refine Calls.mono C2xx.out ?_
  rintro e w2x ⟨rfl, rfl⟩
  clear C2xx
  cases ho : ovB l with
  | true =>
    clear ho
    go_wp2
    go_ret
    exact ⟨rfl, B1.out⟩
  | false =>
    obtain ⟨hl60, _⟩ := ovB_no ho
    have hsz := ovB_sz ho
    clear ho
    by_cases hs : (1000 : Int) < (S.size : Int)
    ·
      go_wp2
      go_ret
      exact ⟨rfl, B1.out⟩
    ·
      have hs2 : S.size ≤ 1000 := by omega
      have D0 := deL_len S.data.toList
      rw [← Lib.size_eq] at D0
      cases hr : rgB l with
      | false =>
        have C2x : Hid _ := rright_any _ l w1 R1l.out hln
        rw [hr] at C2x
        go_wp2_with fail
        refine Calls.mono C2x.out ?_
        rintro e w2 ⟨rfl, hb2⟩
        clear C2x
        have B2 : Hid (Below w.heap.size w w2) := B1.out.trans (hb2.mono B1.out.size)
        have R2l : Aside (Row encP 2 w2 (.slice ao l.length cap) l) := R1l.out.below hb2
        clear R1l
        clear hb2
        have EE : ecE l = 1 := by unfold ecE; rw [hr]; rfl
        have ES : ecS l = ⟨#[]⟩ := by unfold ecS; rw [hr]; rfl
        have C3xx : Hid _ := encode_any _ l w2 R2l.out (by omega)
        rw [EE] at C3xx
        rw [ES] at C3xx
        go_wp2_with fail
        refine Calls.mono C3xx.out ?_
        rintro e w3 ⟨rfl, hb3⟩
        clear C3xx
        have B3 : Hid (Below w.heap.size w w3) := B2.out.trans (hb3.mono B2.out.size)
        have R3l : Aside (Row encP 2 w3 (.slice ao l.length cap) l) := R2l.out.below hb3
        clear R2l
        clear hb3
        clear EE ES hr
        have CD0 := decode_any S w3 (by omega)
        have CD1 := fun W => rdecode_any S W (by omega)
        generalize deL S.data.toList = dl at *
        cases hd : deB S.data.toList with
        | false =>
          rw [hd, show deE2 false = 3 from rfl] at CD0
          simp only [hd] at CD1
          clear hd
          have C4x : Hid _ := CD0
          go_wp2_with fail
          refine Calls.mono C4x.out ?_
          rintro e w4 ⟨v4, rfl, ho4, hb4⟩
          clear C4x
          obtain ⟨a4, c4, rfl, _⟩ := ho4.row.shape
          have B4 : Hid (Below w.heap.size w w4) := B3.out.trans (hb4.mono B3.out.size)
          have R4l : Aside (Row encP 2 w4 (.slice ao l.length cap) l) := R3l.out.below hb4
          clear R3l
          have S4a : Aside (Row encP 2 w4 (.slice a4 (dl).length c4) (dl)) := ho4.row
          clear ho4 hb4
          clear CD0
          have C5xx : Hid _ := CD1 w4
          go_wp2_with fail
          refine Calls.mono C5xx.out ?_
          rintro e w5 ⟨v5, rfl, ho5, hb5⟩
          clear C5xx
          obtain ⟨a5, c5, rfl, _⟩ := ho5.row.shape
          have B5 : Hid (Below w.heap.size w w5) := B4.out.trans (hb5.mono B4.out.size)
          have R5l : Aside (Row encP 2 w5 (.slice ao l.length cap) l) := R4l.out.below hb5
          clear R4l
          have R5a : Aside (Row encP 2 w5 (.slice a4 (dl).length c4) (dl)) := S4a.out.below hb5
          clear S4a
          have S5b : Aside (Row encP 2 w5 (.slice a5 (dl).length c5) (dl)) := ho5.row
          clear ho5 hb5
          clear CD1
          have C6xxx : Hid _ := same_any _ _ dl dl w5 R5a.out S5b.out (by omega) (by omega)
          rw [decide_eq_true (rfl : dl = dl)] at C6xxx
          go_wp2_with fail
          refine Calls.mono C6xxx.out ?_
          rintro e w6 ⟨rfl, hb6⟩
          clear C6xxx
          have B6 : Hid (Below w.heap.size w w6) := B5.out.trans (hb6.mono B5.out.size)
          have R6l : Aside (Row encP 2 w6 (.slice ao l.length cap) l) := R5l.out.below hb6
          clear R5l
          have R6a : Aside (Row encP 2 w6 (.slice a4 (dl).length c4) (dl)) := R5a.out.below hb6
          clear R5a
          have R6b : Aside (Row encP 2 w6 (.slice a5 (dl).length c5) (dl)) := S5b.out.below hb6
          clear S5b
          clear hb6
          go_wp2
          go_ret
          exact ⟨rfl, B6.out⟩
        | true =>
          rw [hd, show deE2 true = 0 from rfl] at CD0
          simp only [hd] at CD1
          clear hd
          have C4x : Hid _ := CD0
          go_wp2_with fail
          refine Calls.mono C4x.out ?_
          rintro e w4 ⟨v4, rfl, ho4, hb4⟩
          clear C4x
          obtain ⟨a4, c4, rfl, _⟩ := ho4.row.shape
          have B4 : Hid (Below w.heap.size w w4) := B3.out.trans (hb4.mono B3.out.size)
          have R4l : Aside (Row encP 2 w4 (.slice ao l.length cap) l) := R3l.out.below hb4
          clear R3l
          have S4a : Aside (Row encP 2 w4 (.slice a4 (dl).length c4) (dl)) := ho4.row
          clear ho4 hb4
          clear CD0
          have C5xx : Hid _ := CD1 w4
          go_wp2_with fail
          refine Calls.mono C5xx.out ?_
          rintro e w5 ⟨v5, rfl, ho5, hb5⟩
          clear C5xx
          obtain ⟨a5, c5, rfl, _⟩ := ho5.row.shape
          have B5 : Hid (Below w.heap.size w w5) := B4.out.trans (hb5.mono B4.out.size)
          have R5l : Aside (Row encP 2 w5 (.slice ao l.length cap) l) := R4l.out.below hb5
          clear R4l
          have R5a : Aside (Row encP 2 w5 (.slice a4 (dl).length c4) (dl)) := S4a.out.below hb5
          clear S4a
          have S5b : Aside (Row encP 2 w5 (.slice a5 (dl).length c5) (dl)) := ho5.row
          clear ho5 hb5
          clear CD1
          have C6xxx : Hid _ := same_any _ _ dl dl w5 R5a.out S5b.out (by omega) (by omega)
          rw [decide_eq_true (rfl : dl = dl)] at C6xxx
          go_wp2_with fail
          refine Calls.mono C6xxx.out ?_
          rintro e w6 ⟨rfl, hb6⟩
          clear C6xxx
          have B6 : Hid (Below w.heap.size w w6) := B5.out.trans (hb6.mono B5.out.size)
          have R6l : Aside (Row encP 2 w6 (.slice ao l.length cap) l) := R5l.out.below hb6
          clear R5l
          have R6a : Aside (Row encP 2 w6 (.slice a4 (dl).length c4) (dl)) := R5a.out.below hb6
          clear R5a
          have R6b : Aside (Row encP 2 w6 (.slice a5 (dl).length c5) (dl)) := S5b.out.below hb6
          clear S5b
          clear hb6
          go_wp2
          go_ret
          exact ⟨rfl, B6.out⟩
      | true =>
        have C2x : Hid _ := rright_any _ l w1 R1l.out hln
        rw [hr] at C2x
        go_wp2_with fail
        refine Calls.mono C2x.out ?_
        rintro e w2 ⟨rfl, hb2⟩
        clear C2x
        have B2 : Hid (Below w.heap.size w w2) := B1.out.trans (hb2.mono B1.out.size)
        have R2l : Aside (Row encP 2 w2 (.slice ao l.length cap) l) := R1l.out.below hb2
        clear R1l
        clear hb2
        have EE : ecE l = 0 := by unfold ecE; rw [hr]; rfl
        have ES : ecS l = ⟨(enL l).toArray⟩ := by unfold ecS; rw [hr]; rfl
        have C3xx : Hid _ := encode_any _ l w2 R2l.out (by omega)
        rw [EE] at C3xx
        rw [ES] at C3xx
        go_wp2_with fail
        refine Calls.mono C3xx.out ?_
        rintro e w3 ⟨rfl, hb3⟩
        clear C3xx
        have B3 : Hid (Below w.heap.size w w3) := B2.out.trans (hb3.mono B2.out.size)
        have R3l : Aside (Row encP 2 w3 (.slice ao l.length cap) l) := R2l.out.below hb3
        clear R2l
        clear hb3
        have CE0 := rencode_any _ l w3 R3l.out (by omega) (rg_of hr)
        generalize (⟨(enL l).toArray⟩ : ByteArray) = sx at *
        have C4xxx : Hid _ := CE0
        go_wp2_with fail
        refine Calls.mono C4xxx.out ?_
        rintro e w4 ⟨rfl, hb4⟩
        clear C4xxx
        have B4 : Hid (Below w.heap.size w w4) := B3.out.trans (hb4.mono B3.out.size)
        have R4l : Aside (Row encP 2 w4 (.slice ao l.length cap) l) := R3l.out.below hb4
        clear R3l
        clear hb4
        clear CE0
        clear EE ES hr
        have CD0 := decode_any S w4 (by omega)
        have CD1 := fun W => rdecode_any S W (by omega)
        generalize deL S.data.toList = dl at *
        cases hd : deB S.data.toList with
        | false =>
          rw [hd, show deE2 false = 3 from rfl] at CD0
          simp only [hd] at CD1
          clear hd
          have C5x : Hid _ := CD0
          go_wp2_with fail
          refine Calls.mono C5x.out ?_
          rintro e w5 ⟨v5, rfl, ho5, hb5⟩
          clear C5x
          obtain ⟨a5, c5, rfl, _⟩ := ho5.row.shape
          have B5 : Hid (Below w.heap.size w w5) := B4.out.trans (hb5.mono B4.out.size)
          have R5l : Aside (Row encP 2 w5 (.slice ao l.length cap) l) := R4l.out.below hb5
          clear R4l
          have S5a : Aside (Row encP 2 w5 (.slice a5 (dl).length c5) (dl)) := ho5.row
          clear ho5 hb5
          clear CD0
          have C6xx : Hid _ := CD1 w5
          go_wp2_with fail
          refine Calls.mono C6xx.out ?_
          rintro e w6 ⟨v6, rfl, ho6, hb6⟩
          clear C6xx
          obtain ⟨a6, c6, rfl, _⟩ := ho6.row.shape
          have B6 : Hid (Below w.heap.size w w6) := B5.out.trans (hb6.mono B5.out.size)
          have R6l : Aside (Row encP 2 w6 (.slice ao l.length cap) l) := R5l.out.below hb6
          clear R5l
          have R6a : Aside (Row encP 2 w6 (.slice a5 (dl).length c5) (dl)) := S5a.out.below hb6
          clear S5a
          have S6b : Aside (Row encP 2 w6 (.slice a6 (dl).length c6) (dl)) := ho6.row
          clear ho6 hb6
          clear CD1
          have C7xxx : Hid _ := same_any _ _ dl dl w6 R6a.out S6b.out (by omega) (by omega)
          rw [decide_eq_true (rfl : dl = dl)] at C7xxx
          go_wp2_with fail
          refine Calls.mono C7xxx.out ?_
          rintro e w7 ⟨rfl, hb7⟩
          clear C7xxx
          have B7 : Hid (Below w.heap.size w w7) := B6.out.trans (hb7.mono B6.out.size)
          have R7l : Aside (Row encP 2 w7 (.slice ao l.length cap) l) := R6l.out.below hb7
          clear R6l
          have R7a : Aside (Row encP 2 w7 (.slice a5 (dl).length c5) (dl)) := R6a.out.below hb7
          clear R6a
          have R7b : Aside (Row encP 2 w7 (.slice a6 (dl).length c6) (dl)) := S6b.out.below hb7
          clear S6b
          clear hb7
          go_wp2
          go_ret
          exact ⟨rfl, B7.out⟩
        | true =>
          rw [hd, show deE2 true = 0 from rfl] at CD0
          simp only [hd] at CD1
          clear hd
          have C5x : Hid _ := CD0
          go_wp2_with fail
          refine Calls.mono C5x.out ?_
          rintro e w5 ⟨v5, rfl, ho5, hb5⟩
          clear C5x
          obtain ⟨a5, c5, rfl, _⟩ := ho5.row.shape
          have B5 : Hid (Below w.heap.size w w5) := B4.out.trans (hb5.mono B4.out.size)
          have R5l : Aside (Row encP 2 w5 (.slice ao l.length cap) l) := R4l.out.below hb5
          clear R4l
          have S5a : Aside (Row encP 2 w5 (.slice a5 (dl).length c5) (dl)) := ho5.row
          clear ho5 hb5
          clear CD0
          have C6xx : Hid _ := CD1 w5
          go_wp2_with fail
          refine Calls.mono C6xx.out ?_
          rintro e w6 ⟨v6, rfl, ho6, hb6⟩
          clear C6xx
          obtain ⟨a6, c6, rfl, _⟩ := ho6.row.shape
          have B6 : Hid (Below w.heap.size w w6) := B5.out.trans (hb6.mono B5.out.size)
          have R6l : Aside (Row encP 2 w6 (.slice ao l.length cap) l) := R5l.out.below hb6
          clear R5l
          have R6a : Aside (Row encP 2 w6 (.slice a5 (dl).length c5) (dl)) := S5a.out.below hb6
          clear S5a
          have S6b : Aside (Row encP 2 w6 (.slice a6 (dl).length c6) (dl)) := ho6.row
          clear ho6 hb6
          clear CD1
          have C7xxx : Hid _ := same_any _ _ dl dl w6 R6a.out S6b.out (by omega) (by omega)
          rw [decide_eq_true (rfl : dl = dl)] at C7xxx
          go_wp2_with fail
          refine Calls.mono C7xxx.out ?_
          rintro e w7 ⟨rfl, hb7⟩
          clear C7xxx
          have B7 : Hid (Below w.heap.size w w7) := B6.out.trans (hb7.mono B6.out.size)
          have R7l : Aside (Row encP 2 w7 (.slice ao l.length cap) l) := R6l.out.below hb7
          clear R6l
          have R7a : Aside (Row encP 2 w7 (.slice a5 (dl).length c5) (dl)) := R6a.out.below hb7
          clear R6a
          have R7b : Aside (Row encP 2 w7 (.slice a6 (dl).length c6) (dl)) := S6b.out.below hb7
          clear S6b
          clear hb7
          go_wp2
          go_ret
          exact ⟨rfl, B7.out⟩

end Go.Proofs.Ytkoonogfllndhaa

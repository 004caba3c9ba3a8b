/-
  The walk of EntryBack.
-/
import Derived.Test.YtkoonogfllndhaaEnKeep
import Derived.Test.YtkoonogfllndhaaEnOpen
import Derived.Test.YtkoonogfllndhaaEnDec
import Derived.Test.YtkoonogfllndhaaEnRef
namespace Go.Proofs.Ytkoonogfllndhaa
open Go.Shelf Go.RowKit Go.Lib Go.Sort

set_option maxHeartbeats 4000000 in
set_option maxRecDepth 100000 in
theorem entryBack_walk (v : Value) (l : List En) (S : ByteArray) (w : World) (h : RowN w v l) (_hS : S.size ≤ maxLen) :
    Calls Try.prog 6 #[v, .string S] w fun e w' => e = .returned (.bool true) ∧ Below w.heap.size w w' := by
  obtain ⟨hr, hln⟩ := h
  obtain ⟨ao, cap, rfl, hcap⟩ := hr.shape
  have R0l : Aside (Row encP 2 w (.slice ao l.length cap) l) := hr
  clear hr
  go_enter Try.func6, Try.ntmps6
  have C1x : Hid _ := works_any w
  go_wp2_with fail
  refine Calls.mono C1x.out ?_
  rintro e w1 ⟨rfl, hb1⟩
  clear C1x
  have B1 : Hid (Below w.heap.size w w1) := hb1
  have R1l : Aside (Row encP 2 w1 (.slice ao l.length cap) l) := R0l.out.below hb1
  clear R0l
  clear hb1
  have C2xx : Hid _ := over_any _ l w1 R1l.out
  go_wp2_with fail
  refine Calls.mono C2xx.out ?_
  rintro e w2x ⟨rfl, rfl⟩
  clear C2xx
  cases ho : ovB l with
  | true =>
    clear ho
    go_wp2
    go_ret
    exact ⟨rfl, B1.out⟩
  | false =>
    obtain ⟨hl60, _⟩ := ovB_no ho
    have hsz := ovB_sz ho
    clear ho
    by_cases hs : (1000 : Int) < (S.size : Int)
    ·
      go_wp2
      go_ret
      exact ⟨rfl, B1.out⟩
    ·
      have hs2 : S.size ≤ 1000 := by omega
      have D0 := deL_len S.data.toList
      rw [← Lib.size_eq] at D0
      cases hr : rgB l with
      | false =>
        have EE : ecE l = 1 := by unfold ecE; rw [hr]; rfl
        have C2x : Hid _ := encode_any _ l w1 R1l.out (by omega)
        rw [EE] at C2x
        go_wp2_with fail
        refine Calls.mono C2x.out ?_
        rintro e w2 ⟨rfl, hb2⟩
        clear C2x
        have B2 : Hid (Below w.heap.size w w2) := B1.out.trans (hb2.mono B1.out.size)
        have R2l : Aside (Row encP 2 w2 (.slice ao l.length cap) l) := R1l.out.below hb2
        clear R1l
        clear hb2
        clear EE hr
        generalize ecS l = sx at *
        have CD0 := decode_any S w2 (by omega)
        cases hd : deB S.data.toList with
        | false =>
          rw [hd, show deE2 false = 3 from rfl] at CD0
          clear hd
          generalize deL S.data.toList = dl at *
          have C3x : Hid _ := CD0
          go_wp2_with fail
          refine Calls.mono C3x.out ?_
          rintro e w3 ⟨v3, rfl, ho3, hb3⟩
          clear C3x
          obtain ⟨a3, c3, rfl, _⟩ := ho3.row.shape
          have B3 : Hid (Below w.heap.size w w3) := B2.out.trans (hb3.mono B2.out.size)
          have R3l : Aside (Row encP 2 w3 (.slice ao l.length cap) l) := R2l.out.below hb3
          clear R2l
          have S3a : Aside (Row encP 2 w3 (.slice a3 (dl).length c3) (dl)) := ho3.row
          clear ho3 hb3
          clear CD0
          go_wp2
          go_ret
          exact ⟨rfl, B3.out⟩
        | true =>
          obtain ⟨dr, de⟩ := deL_right hd
          rw [hd, show deE2 true = 0 from rfl] at CD0
          have E1 : ecE (deL S.data.toList) = 0 := by unfold ecE; rw [rgB_of dr]; rfl
          have E2 : ecS (deL S.data.toList) = S := by
            unfold ecS; rw [rgB_of dr, if_pos rfl, de]
          clear hd dr de
          generalize deL S.data.toList = dl at *
          have C3x : Hid _ := CD0
          go_wp2_with fail
          refine Calls.mono C3x.out ?_
          rintro e w3 ⟨v3, rfl, ho3, hb3⟩
          clear C3x
          obtain ⟨a3, c3, rfl, _⟩ := ho3.row.shape
          have B3 : Hid (Below w.heap.size w w3) := B2.out.trans (hb3.mono B2.out.size)
          have R3l : Aside (Row encP 2 w3 (.slice ao l.length cap) l) := R2l.out.below hb3
          clear R2l
          have S3a : Aside (Row encP 2 w3 (.slice a3 (dl).length c3) (dl)) := ho3.row
          clear ho3 hb3
          clear CD0
          have C4xx : Hid _ := encode_any _ dl w3 S3a.out (by omega)
          rw [E1] at C4xx
          rw [E2] at C4xx
          go_wp2_with fail
          refine Calls.mono C4xx.out ?_
          rintro e w4 ⟨rfl, hb4⟩
          clear C4xx
          have B4 : Hid (Below w.heap.size w w4) := B3.out.trans (hb4.mono B3.out.size)
          have R4l : Aside (Row encP 2 w4 (.slice ao l.length cap) l) := R3l.out.below hb4
          clear R3l
          have R4a : Aside (Row encP 2 w4 (.slice a3 (dl).length c3) (dl)) := S3a.out.below hb4
          clear S3a
          clear hb4
          clear E1 E2
          go_wp2
          go_ret
          exact ⟨rfl, B4.out⟩
      | true =>
        have EE : ecE l = 0 := by unfold ecE; rw [hr]; rfl
        have ESz : (ecS l).size ≤ 30000 := by unfold ecS; rw [hr, if_pos rfl, ba_size, enL_length]; omega
        have CD := fun W => decode_any (ecS l) W (by omega)
        have EL : (ecS l).data.toList = enL l := by unfold ecS; rw [hr]; rfl
        rw [EL, (deL_enL (rg_of hr)).1, (deL_enL (rg_of hr)).2, show deE2 true = 0 from rfl] at CD
        have C2x : Hid _ := encode_any _ l w1 R1l.out (by omega)
        rw [EE] at C2x
        go_wp2_with fail
        refine Calls.mono C2x.out ?_
        rintro e w2 ⟨rfl, hb2⟩
        clear C2x
        have B2 : Hid (Below w.heap.size w w2) := B1.out.trans (hb2.mono B1.out.size)
        have R2l : Aside (Row encP 2 w2 (.slice ao l.length cap) l) := R1l.out.below hb2
        clear R1l
        clear hb2
        clear EE hr EL ESz
        generalize ecS l = sx at *
        have C3xx : Hid _ := CD w2
        go_wp2_with fail
        refine Calls.mono C3xx.out ?_
        rintro e w3 ⟨v3, rfl, ho3, hb3⟩
        clear C3xx
        obtain ⟨a3, c3, rfl, _⟩ := ho3.row.shape
        have B3 : Hid (Below w.heap.size w w3) := B2.out.trans (hb3.mono B2.out.size)
        have R3l : Aside (Row encP 2 w3 (.slice ao l.length cap) l) := R2l.out.below hb3
        clear R2l
        have S3x : Aside (Row encP 2 w3 (.slice a3 (l).length c3) (l)) := ho3.row
        clear ho3 hb3
        clear CD
        have C4xxx : Hid _ := same_any _ _ l l w3 S3x.out R3l.out (by omega) (by omega)
        rw [decide_eq_true (rfl : l = l)] at C4xxx
        go_wp2_with fail
        refine Calls.mono C4xxx.out ?_
        rintro e w4 ⟨rfl, hb4⟩
        clear C4xxx
        have B4 : Hid (Below w.heap.size w w4) := B3.out.trans (hb4.mono B3.out.size)
        have R4l : Aside (Row encP 2 w4 (.slice ao l.length cap) l) := R3l.out.below hb4
        clear R3l
        have R4x : Aside (Row encP 2 w4 (.slice a3 (l).length c3) (l)) := S3x.out.below hb4
        clear S3x
        clear hb4
        have CD0 := decode_any S w4 (by omega)
        cases hd : deB S.data.toList with
        | false =>
          rw [hd, show deE2 false = 3 from rfl] at CD0
          clear hd
          generalize deL S.data.toList = dl at *
          have C5x : Hid _ := CD0
          go_wp2_with fail
          refine Calls.mono C5x.out ?_
          rintro e w5 ⟨v5, rfl, ho5, hb5⟩
          clear C5x
          obtain ⟨a5, c5, rfl, _⟩ := ho5.row.shape
          have B5 : Hid (Below w.heap.size w w5) := B4.out.trans (hb5.mono B4.out.size)
          have R5l : Aside (Row encP 2 w5 (.slice ao l.length cap) l) := R4l.out.below hb5
          clear R4l
          have R5x : Aside (Row encP 2 w5 (.slice a3 (l).length c3) (l)) := R4x.out.below hb5
          clear R4x
          have S5a : Aside (Row encP 2 w5 (.slice a5 (dl).length c5) (dl)) := ho5.row
          clear ho5 hb5
          clear CD0
          go_wp2
          go_ret
          exact ⟨rfl, B5.out⟩
        | true =>
          obtain ⟨dr, de⟩ := deL_right hd
          rw [hd, show deE2 true = 0 from rfl] at CD0
          have E1 : ecE (deL S.data.toList) = 0 := by unfold ecE; rw [rgB_of dr]; rfl
          have E2 : ecS (deL S.data.toList) = S := by
            unfold ecS; rw [rgB_of dr, if_pos rfl, de]
          clear hd dr de
          generalize deL S.data.toList = dl at *
          have C5x : Hid _ := CD0
          go_wp2_with fail
          refine Calls.mono C5x.out ?_
          rintro e w5 ⟨v5, rfl, ho5, hb5⟩
          clear C5x
          obtain ⟨a5, c5, rfl, _⟩ := ho5.row.shape
          have B5 : Hid (Below w.heap.size w w5) := B4.out.trans (hb5.mono B4.out.size)
          have R5l : Aside (Row encP 2 w5 (.slice ao l.length cap) l) := R4l.out.below hb5
          clear R4l
          have R5x : Aside (Row encP 2 w5 (.slice a3 (l).length c3) (l)) := R4x.out.below hb5
          clear R4x
          have S5a : Aside (Row encP 2 w5 (.slice a5 (dl).length c5) (dl)) := ho5.row
          clear ho5 hb5
          clear CD0
          have C6xx : Hid _ := encode_any _ dl w5 S5a.out (by omega)
          rw [E1] at C6xx
          rw [E2] at C6xx
          go_wp2_with fail
          refine Calls.mono C6xx.out ?_
          rintro e w6 ⟨rfl, hb6⟩
          clear C6xx
          have B6 : Hid (Below w.heap.size w w6) := B5.out.trans (hb6.mono B5.out.size)
          have R6l : Aside (Row encP 2 w6 (.slice ao l.length cap) l) := R5l.out.below hb6
          clear R5l
          have R6x : Aside (Row encP 2 w6 (.slice a3 (l).length c3) (l)) := R5x.out.below hb6
          clear R5x
          have R6a : Aside (Row encP 2 w6 (.slice a5 (dl).length c5) (dl)) := S5a.out.below hb6
          clear S5a
          clear hb6
          clear E1 E2
          go_wp2
          go_ret
          exact ⟨rfl, B6.out⟩

end Go.Proofs.Ytkoonogfllndhaa

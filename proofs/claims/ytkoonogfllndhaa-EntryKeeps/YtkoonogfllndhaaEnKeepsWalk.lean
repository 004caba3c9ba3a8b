/-
  The walk of EntryKeeps.
-/
import Derived.Test.YtkoonogfllndhaaEnKeep
import Derived.Test.YtkoonogfllndhaaEnOpen
import Derived.Test.YtkoonogfllndhaaEnRef
namespace Go.Proofs.Ytkoonogfllndhaa
open Go.Shelf Go.RowKit Go.Lib Go.Sort

set_option maxHeartbeats 4000000 in
set_option maxRecDepth 100000 in
theorem entryKeeps_walk (v : Value) (l : List En) (k x o : ByteArray) (w : World) (h : RowN w v l) (_hk0 : k.size ≤ maxLen) (_hx0 : x.size ≤ maxLen) (_ho0 : o.size ≤ maxLen) :
    Calls Try.prog 7 #[v, .string k, .string x, .string o] w fun e w' => e = .returned (.bool true) ∧ Below w.heap.size w w' := by
  obtain ⟨hr, hln⟩ := h
  obtain ⟨ao, cap, rfl, hcap⟩ := hr.shape
  have R0l : Aside (Row encP 2 w (.slice ao l.length cap) l) := hr
  clear hr
  go_enter Try.func7, Try.ntmps7
  have C1x : Hid _ := works_any w
  go_wp2_with fail
  refine Calls.mono C1x.out ?_
  rintro e w1 ⟨rfl, hb1⟩
  clear C1x
  have B1 : Hid (Below w.heap.size w w1) := hb1
  have R1l : Aside (Row encP 2 w1 (.slice ao l.length cap) l) := R0l.out.below hb1
  clear R0l
  clear hb1
  have C2xx : Hid _ := over_any _ l w1 R1l.out
  go_wp2_with fail
  refine Calls.mono C2xx.out ?_
  rintro e w2x ⟨rfl, rfl⟩
  clear C2xx
  have C2xxx : Hid _ := rright_any _ l w1 R1l.out hln
  go_wp2_with fail
  refine Calls.mono C2xxx.out ?_
  rintro e w2 ⟨rfl, hb2⟩
  clear C2xxx
  have B2 : Hid (Below w.heap.size w w2) := B1.out.trans (hb2.mono B1.out.size)
  have R2l : Aside (Row encP 2 w2 (.slice ao l.length cap) l) := R1l.out.below hb2
  clear R1l
  clear hb2
  cases ho : ovB l with
  | true =>
    clear ho
    generalize rgB l = rl at *
    go_wp2
    go_ret
    exact ⟨rfl, B2.out⟩
  | false =>
    obtain ⟨hl60, _⟩ := ovB_no ho
    clear ho
    cases hr : rgB l with
    | false =>
      clear hr
      go_wp2
      go_ret
      exact ⟨rfl, B2.out⟩
    | true =>
      have RG : Hid (Rg l) := rg_of hr
      clear hr
      by_cases hk : (60 : Int) < (k.size : Int)
      ·
        go_wp2
        go_ret
        exact ⟨rfl, B2.out⟩
      ·
        by_cases hx : (300 : Int) < (x.size : Int)
        ·
          go_wp2
          go_ret
          exact ⟨rfl, B2.out⟩
        ·
          by_cases hoo : (60 : Int) < (o.size : Int)
          ·
            go_wp2
            go_ret
            exact ⟨rfl, B2.out⟩
          ·
            cases hm : mayB k x with
            | false =>
              have C3x : Hid _ := check_any k x w2
              rw [chkE_of] at C3x
              rw [hm] at C3x
              go_wp2_with fail
              refine Calls.mono C3x.out ?_
              rintro e w3x ⟨rfl, rfl⟩
              clear C3x
              clear hm
              go_wp2
              go_ret
              exact ⟨rfl, B2.out⟩
            | true =>
              have C3x : Hid _ := check_any k x w2
              rw [chkE_of] at C3x
              rw [hm] at C3x
              go_wp2_with fail
              refine Calls.mono C3x.out ?_
              rintro e w3x ⟨rfl, rfl⟩
              clear C3x
              obtain ⟨k1, k2, k3, k4, k5⟩ := keep_own RG.out hm
              have k6 := puL_len l k x
              have k7 := deE_len (puL l k x) k
              have KO := fun h => keep_other (o := o) RG.out hm h
              clear hm
              have RA : Aside (Row encP 2 w2 (.slice ao l.length cap) l) := R2l.out
              go_wp2_with (at_builtin; refine app_z rfl _ _ rfl w2.heap.size _ [] rfl (OwnZ.empty _ _ _) _ l rfl RA.out (by simp; omega) (Nat.le_refl _) l rfl ?_)
              intro aA nA cA wA PA QA
              have hbA : Below w2.heap.size w2 wA := QA _ (Below.refl _ _)
              clear RA QA
              have B3 : Hid (Below w.heap.size w wA) := B2.out.trans (hbA.mono B2.out.size)
              have R3l : Aside (Row encP 2 wA (.slice ao l.length cap) l) := R2l.out.below hbA
              clear R2l
              have RW : Aside (Row encP 2 wA (.slice aA nA cA) l) := PA.own.row
              clear PA hbA
              have CP := eput_any _ l k x wA R3l.out (by omega)
              have CDl := fun W v (h : Row encP 2 W v (puL l k x)) => delete_any v (puL l k x) k W h (by omega)
              generalize puL l k x = pp at *
              generalize deE pp k = dd at *
              have C4xx : Hid _ := CP
              go_wp2_with fail
              refine Calls.mono C4xx.out ?_
              rintro e w4 ⟨v4, rfl, ho4, hb4⟩
              clear C4xx
              obtain ⟨a4, c4, rfl, _⟩ := ho4.row.shape
              have B4 : Hid (Below w.heap.size w w4) := B3.out.trans (hb4.mono B3.out.size)
              have R4l : Aside (Row encP 2 w4 (.slice ao l.length cap) l) := R3l.out.below hb4
              clear R3l
              have R4was : Aside (Row encP 2 w4 (.slice aA nA cA) l) := RW.out.below hb4
              clear RW
              have S4p : Aside (Row encP 2 w4 (.slice a4 (pp).length c4) (pp)) := ho4.row
              clear ho4 hb4
              clear CP
              have C5xxx : Hid _ := CDl w4 _ S4p.out
              go_wp2_with fail
              refine Calls.mono C5xxx.out ?_
              rintro e w5 ⟨v5, rfl, ho5, hb5⟩
              clear C5xxx
              obtain ⟨a5, c5, rfl, _⟩ := ho5.row.shape
              have B5 : Hid (Below w.heap.size w w5) := B4.out.trans (hb5.mono B4.out.size)
              have R5l : Aside (Row encP 2 w5 (.slice ao l.length cap) l) := R4l.out.below hb5
              clear R4l
              have R5was : Aside (Row encP 2 w5 (.slice aA nA cA) l) := R4was.out.below hb5
              clear R4was
              have R5p : Aside (Row encP 2 w5 (.slice a4 (pp).length c4) (pp)) := S4p.out.below hb5
              clear S4p
              have S5d : Aside (Row encP 2 w5 (.slice a5 (dd).length c5) (dd)) := ho5.row
              clear ho5 hb5
              clear CDl
              have C6xxxx : Hid _ := get_any _ pp k w5 R5p.out (by omega)
              rw [k3] at C6xxxx
              rw [k4] at C6xxxx
              go_wp2_with fail
              refine Calls.mono C6xxxx.out ?_
              rintro e w6 ⟨rfl, hb6⟩
              clear C6xxxx
              have B6 : Hid (Below w.heap.size w w6) := B5.out.trans (hb6.mono B5.out.size)
              have R6l : Aside (Row encP 2 w6 (.slice ao l.length cap) l) := R5l.out.below hb6
              clear R5l
              have R6was : Aside (Row encP 2 w6 (.slice aA nA cA) l) := R5was.out.below hb6
              clear R5was
              have R6p : Aside (Row encP 2 w6 (.slice a4 (pp).length c4) (pp)) := R5p.out.below hb6
              clear R5p
              have R6d : Aside (Row encP 2 w6 (.slice a5 (dd).length c5) (dd)) := S5d.out.below hb6
              clear S5d
              clear hb6
              have C7xxxxx : Hid _ := get_any _ dd k w6 R6d.out (by omega)
              rw [k5] at C7xxxxx
              go_wp2_with fail
              refine Calls.mono C7xxxxx.out ?_
              rintro e w7 ⟨rfl, hb7⟩
              clear C7xxxxx
              have B7 : Hid (Below w.heap.size w w7) := B6.out.trans (hb7.mono B6.out.size)
              have R7l : Aside (Row encP 2 w7 (.slice ao l.length cap) l) := R6l.out.below hb7
              clear R6l
              have R7was : Aside (Row encP 2 w7 (.slice aA nA cA) l) := R6was.out.below hb7
              clear R6was
              have R7p : Aside (Row encP 2 w7 (.slice a4 (pp).length c4) (pp)) := R6p.out.below hb7
              clear R6p
              have R7d : Aside (Row encP 2 w7 (.slice a5 (dd).length c5) (dd)) := R6d.out.below hb7
              clear R6d
              clear hb7
              generalize geV dd k = gd at *
              clear k3 k4 k5
              by_cases hok : o = k
              ·
                have hs : (o.toList != k.toList) = false := by rw [hok]; simp
                have hs2 : o.toList = k.toList := by rw [hok]
                clear KO hok
                have C8x : Hid _ := get_any _ l o w7 R7l.out (by omega)
                go_wp2_with fail
                refine Calls.mono C8x.out ?_
                rintro e w8 ⟨rfl, hb8⟩
                clear C8x
                have B8 : Hid (Below w.heap.size w w8) := B7.out.trans (hb8.mono B7.out.size)
                have R8l : Aside (Row encP 2 w8 (.slice ao l.length cap) l) := R7l.out.below hb8
                clear R7l
                have R8was : Aside (Row encP 2 w8 (.slice aA nA cA) l) := R7was.out.below hb8
                clear R7was
                have R8p : Aside (Row encP 2 w8 (.slice a4 (pp).length c4) (pp)) := R7p.out.below hb8
                clear R7p
                have R8d : Aside (Row encP 2 w8 (.slice a5 (dd).length c5) (dd)) := R7d.out.below hb8
                clear R7d
                clear hb8
                have C9xx : Hid _ := get_any _ pp o w8 R8p.out (by omega)
                go_wp2_with fail
                refine Calls.mono C9xx.out ?_
                rintro e w9 ⟨rfl, hb9⟩
                clear C9xx
                have B9 : Hid (Below w.heap.size w w9) := B8.out.trans (hb9.mono B8.out.size)
                have R9l : Aside (Row encP 2 w9 (.slice ao l.length cap) l) := R8l.out.below hb9
                clear R8l
                have R9was : Aside (Row encP 2 w9 (.slice aA nA cA) l) := R8was.out.below hb9
                clear R8was
                have R9p : Aside (Row encP 2 w9 (.slice a4 (pp).length c4) (pp)) := R8p.out.below hb9
                clear R8p
                have R9d : Aside (Row encP 2 w9 (.slice a5 (dd).length c5) (dd)) := R8d.out.below hb9
                clear R8d
                clear hb9
                have C10xxx : Hid _ := get_any _ dd o w9 R9d.out (by omega)
                go_wp2_with fail
                refine Calls.mono C10xxx.out ?_
                rintro e w10 ⟨rfl, hb10⟩
                clear C10xxx
                have B10 : Hid (Below w.heap.size w w10) := B9.out.trans (hb10.mono B9.out.size)
                have R10l : Aside (Row encP 2 w10 (.slice ao l.length cap) l) := R9l.out.below hb10
                clear R9l
                have R10was : Aside (Row encP 2 w10 (.slice aA nA cA) l) := R9was.out.below hb10
                clear R9was
                have R10p : Aside (Row encP 2 w10 (.slice a4 (pp).length c4) (pp)) := R9p.out.below hb10
                clear R9p
                have R10d : Aside (Row encP 2 w10 (.slice a5 (dd).length c5) (dd)) := R9d.out.below hb10
                clear R9d
                clear hb10
                generalize geV l o = u1 at *
                generalize geB l o = u2 at *
                generalize geV pp o = u3 at *
                generalize geB pp o = u4 at *
                generalize geV dd o = u5 at *
                generalize geB dd o = u6 at *
                have C11xxxx : Hid _ := same_any _ _ l l w10 R10l.out R10was.out (by omega) (by omega)
                rw [decide_eq_true (rfl : l = l)] at C11xxxx
                go_wp2_with fail
                refine Calls.mono C11xxxx.out ?_
                rintro e w11 ⟨rfl, hb11⟩
                clear C11xxxx
                have B11 : Hid (Below w.heap.size w w11) := B10.out.trans (hb11.mono B10.out.size)
                have R11l : Aside (Row encP 2 w11 (.slice ao l.length cap) l) := R10l.out.below hb11
                clear R10l
                have R11was : Aside (Row encP 2 w11 (.slice aA nA cA) l) := R10was.out.below hb11
                clear R10was
                have R11p : Aside (Row encP 2 w11 (.slice a4 (pp).length c4) (pp)) := R10p.out.below hb11
                clear R10p
                have R11d : Aside (Row encP 2 w11 (.slice a5 (dd).length c5) (dd)) := R10d.out.below hb11
                clear R10d
                clear hb11
                have C12xxxxx : Hid _ := rright_any _ pp w11 R11p.out (by omega)
                rw [k1] at C12xxxxx
                go_wp2_with fail
                refine Calls.mono C12xxxxx.out ?_
                rintro e w12 ⟨rfl, hb12⟩
                clear C12xxxxx
                have B12 : Hid (Below w.heap.size w w12) := B11.out.trans (hb12.mono B11.out.size)
                have R12l : Aside (Row encP 2 w12 (.slice ao l.length cap) l) := R11l.out.below hb12
                clear R11l
                have R12was : Aside (Row encP 2 w12 (.slice aA nA cA) l) := R11was.out.below hb12
                clear R11was
                have R12p : Aside (Row encP 2 w12 (.slice a4 (pp).length c4) (pp)) := R11p.out.below hb12
                clear R11p
                have R12d : Aside (Row encP 2 w12 (.slice a5 (dd).length c5) (dd)) := R11d.out.below hb12
                clear R11d
                clear hb12
                have C13xxxxxx : Hid _ := rright_any _ dd w12 R12d.out (by omega)
                rw [k2] at C13xxxxxx
                go_wp2_with fail
                refine Calls.mono C13xxxxxx.out ?_
                rintro e w13 ⟨rfl, hb13⟩
                clear C13xxxxxx
                have B13 : Hid (Below w.heap.size w w13) := B12.out.trans (hb13.mono B12.out.size)
                have R13l : Aside (Row encP 2 w13 (.slice ao l.length cap) l) := R12l.out.below hb13
                clear R12l
                have R13was : Aside (Row encP 2 w13 (.slice aA nA cA) l) := R12was.out.below hb13
                clear R12was
                have R13p : Aside (Row encP 2 w13 (.slice a4 (pp).length c4) (pp)) := R12p.out.below hb13
                clear R12p
                have R13d : Aside (Row encP 2 w13 (.slice a5 (dd).length c5) (dd)) := R12d.out.below hb13
                clear R12d
                clear hb13
                clear k1 k2
                go_wp2
                go_ret
                exact ⟨rfl, B13.out⟩
              ·
                have hs2 : ¬ o.toList = k.toList := fun e => hok (baL_inj e)
                have hs : (o.toList != k.toList) = true := by rw [bne_iff_ne]; exact hs2
                obtain ⟨j1, j2, j3, j4⟩ := KO hok
                clear KO hok
                have C8x : Hid _ := get_any _ l o w7 R7l.out (by omega)
                go_wp2_with fail
                refine Calls.mono C8x.out ?_
                rintro e w8 ⟨rfl, hb8⟩
                clear C8x
                have B8 : Hid (Below w.heap.size w w8) := B7.out.trans (hb8.mono B7.out.size)
                have R8l : Aside (Row encP 2 w8 (.slice ao l.length cap) l) := R7l.out.below hb8
                clear R7l
                have R8was : Aside (Row encP 2 w8 (.slice aA nA cA) l) := R7was.out.below hb8
                clear R7was
                have R8p : Aside (Row encP 2 w8 (.slice a4 (pp).length c4) (pp)) := R7p.out.below hb8
                clear R7p
                have R8d : Aside (Row encP 2 w8 (.slice a5 (dd).length c5) (dd)) := R7d.out.below hb8
                clear R7d
                clear hb8
                have C9xx : Hid _ := get_any _ pp o w8 R8p.out (by omega)
                rw [j1] at C9xx
                rw [j2] at C9xx
                go_wp2_with fail
                refine Calls.mono C9xx.out ?_
                rintro e w9 ⟨rfl, hb9⟩
                clear C9xx
                have B9 : Hid (Below w.heap.size w w9) := B8.out.trans (hb9.mono B8.out.size)
                have R9l : Aside (Row encP 2 w9 (.slice ao l.length cap) l) := R8l.out.below hb9
                clear R8l
                have R9was : Aside (Row encP 2 w9 (.slice aA nA cA) l) := R8was.out.below hb9
                clear R8was
                have R9p : Aside (Row encP 2 w9 (.slice a4 (pp).length c4) (pp)) := R8p.out.below hb9
                clear R8p
                have R9d : Aside (Row encP 2 w9 (.slice a5 (dd).length c5) (dd)) := R8d.out.below hb9
                clear R8d
                clear hb9
                have C10xxx : Hid _ := get_any _ dd o w9 R9d.out (by omega)
                rw [j3] at C10xxx
                rw [j4] at C10xxx
                go_wp2_with fail
                refine Calls.mono C10xxx.out ?_
                rintro e w10 ⟨rfl, hb10⟩
                clear C10xxx
                have B10 : Hid (Below w.heap.size w w10) := B9.out.trans (hb10.mono B9.out.size)
                have R10l : Aside (Row encP 2 w10 (.slice ao l.length cap) l) := R9l.out.below hb10
                clear R9l
                have R10was : Aside (Row encP 2 w10 (.slice aA nA cA) l) := R9was.out.below hb10
                clear R9was
                have R10p : Aside (Row encP 2 w10 (.slice a4 (pp).length c4) (pp)) := R9p.out.below hb10
                clear R9p
                have R10d : Aside (Row encP 2 w10 (.slice a5 (dd).length c5) (dd)) := R9d.out.below hb10
                clear R9d
                clear hb10
                clear j1 j2 j3 j4
                generalize geV l o = u1 at *
                generalize geB l o = u2 at *
                have C11xxxx : Hid _ := same_any _ _ l l w10 R10l.out R10was.out (by omega) (by omega)
                rw [decide_eq_true (rfl : l = l)] at C11xxxx
                go_wp2_with fail
                refine Calls.mono C11xxxx.out ?_
                rintro e w11 ⟨rfl, hb11⟩
                clear C11xxxx
                have B11 : Hid (Below w.heap.size w w11) := B10.out.trans (hb11.mono B10.out.size)
                have R11l : Aside (Row encP 2 w11 (.slice ao l.length cap) l) := R10l.out.below hb11
                clear R10l
                have R11was : Aside (Row encP 2 w11 (.slice aA nA cA) l) := R10was.out.below hb11
                clear R10was
                have R11p : Aside (Row encP 2 w11 (.slice a4 (pp).length c4) (pp)) := R10p.out.below hb11
                clear R10p
                have R11d : Aside (Row encP 2 w11 (.slice a5 (dd).length c5) (dd)) := R10d.out.below hb11
                clear R10d
                clear hb11
                have C12xxxxx : Hid _ := rright_any _ pp w11 R11p.out (by omega)
                rw [k1] at C12xxxxx
                go_wp2_with fail
                refine Calls.mono C12xxxxx.out ?_
                rintro e w12 ⟨rfl, hb12⟩
                clear C12xxxxx
                have B12 : Hid (Below w.heap.size w w12) := B11.out.trans (hb12.mono B11.out.size)
                have R12l : Aside (Row encP 2 w12 (.slice ao l.length cap) l) := R11l.out.below hb12
                clear R11l
                have R12was : Aside (Row encP 2 w12 (.slice aA nA cA) l) := R11was.out.below hb12
                clear R11was
                have R12p : Aside (Row encP 2 w12 (.slice a4 (pp).length c4) (pp)) := R11p.out.below hb12
                clear R11p
                have R12d : Aside (Row encP 2 w12 (.slice a5 (dd).length c5) (dd)) := R11d.out.below hb12
                clear R11d
                clear hb12
                have C13xxxxxx : Hid _ := rright_any _ dd w12 R12d.out (by omega)
                rw [k2] at C13xxxxxx
                go_wp2_with fail
                refine Calls.mono C13xxxxxx.out ?_
                rintro e w13 ⟨rfl, hb13⟩
                clear C13xxxxxx
                have B13 : Hid (Below w.heap.size w w13) := B12.out.trans (hb13.mono B12.out.size)
                have R13l : Aside (Row encP 2 w13 (.slice ao l.length cap) l) := R12l.out.below hb13
                clear R12l
                have R13was : Aside (Row encP 2 w13 (.slice aA nA cA) l) := R12was.out.below hb13
                clear R12was
                have R13p : Aside (Row encP 2 w13 (.slice a4 (pp).length c4) (pp)) := R12p.out.below hb13
                clear R12p
                have R13d : Aside (Row encP 2 w13 (.slice a5 (dd).length c5) (dd)) := R12d.out.below hb13
                clear R12d
                clear hb13
                clear k1 k2
                go_wp2
                go_ret
                exact ⟨rfl, B13.out⟩

end Go.Proofs.Ytkoonogfllndhaa

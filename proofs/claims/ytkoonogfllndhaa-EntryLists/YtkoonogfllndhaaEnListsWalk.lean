/-
  The walk of EntryLists.
-/
import Derived.Test.YtkoonogfllndhaaEnKeep
import Derived.Test.YtkoonogfllndhaaEnOpen
import Derived.Test.YtkoonogfllndhaaEnRef
namespace Go.Proofs.Ytkoonogfllndhaa
open Go.Shelf Go.RowKit Go.Lib Go.Sort

set_option maxHeartbeats 4000000 in
set_option maxRecDepth 100000 in
theorem entryLists_walk (v : Value) (l : List En) (k x : ByteArray) (w : World) (h : RowN w v l) (_hk0 : k.size ≤ maxLen) (_hx0 : x.size ≤ maxLen) :
    Calls Try.prog 3 #[v, .string k, .string x] w fun e w' => e = .returned (.bool true) ∧ Below w.heap.size w w' := by
  obtain ⟨hr, hln⟩ := h
  obtain ⟨ao, cap, rfl, hcap⟩ := hr.shape
  have R0l : Aside (Row encP 2 w (.slice ao l.length cap) l) := hr
  clear hr
  go_enter Try.func3, Try.ntmps3
  have C1x : Hid _ := works_any w
  go_wp2_with fail
  refine Calls.mono C1x.out ?_
  rintro e w1 ⟨rfl, hb1⟩
  clear C1x
  have B1 : Hid (Below w.heap.size w w1) := hb1
  have R1l : Aside (Row encP 2 w1 (.slice ao l.length cap) l) := R0l.out.below hb1
  clear R0l
  clear hb1
  have C2xx : Hid _ := over_any _ l w1 R1l.out
  go_wp2_with fail
  refine Calls.mono C2xx.out ?_
  rintro e w2x ⟨rfl, rfl⟩
  clear C2xx
  cases ho : ovB l with
  | true =>
    clear ho
    go_wp2
    go_ret
    exact ⟨rfl, B1.out⟩
  | false =>
    obtain ⟨hl60, _⟩ := ovB_no ho
    have hsz := ovB_sz ho
    clear ho
    by_cases hk : (60 : Int) < (k.size : Int)
    ·
      go_wp2
      go_ret
      exact ⟨rfl, B1.out⟩
    ·
      by_cases hx : (300 : Int) < (x.size : Int)
      ·
        go_wp2
        go_ret
        exact ⟨rfl, B1.out⟩
      ·
        have k6 := puL_len l k x
        have k7 := deE_len l k
        cases hm : mayB k x with
        | false =>
          have C2x : Hid _ := may_any k x w1
          rw [hm] at C2x
          go_wp2_with fail
          refine Calls.mono C2x.out ?_
          rintro e w2x ⟨rfl, rfl⟩
          clear C2x
          cases hr : rgB l with
          | false =>
            have C2x : Hid _ := rright_any _ l w1 R1l.out hln
            rw [hr] at C2x
            go_wp2_with fail
            refine Calls.mono C2x.out ?_
            rintro e w2 ⟨rfl, hb2⟩
            clear C2x
            have B2 : Hid (Below w.heap.size w w2) := B1.out.trans (hb2.mono B1.out.size)
            have R2l : Aside (Row encP 2 w2 (.slice ao l.length cap) l) := R1l.out.below hb2
            clear R1l
            clear hb2
            have C3xx : Hid _ := check_any k x w2
            rw [chkE_of] at C3xx
            rw [hm] at C3xx
            rw [show (if false = true then (0 : Int) else 110) = 110 from rfl] at C3xx
            go_wp2_with fail
            refine Calls.mono C3xx.out ?_
            rintro e w3x ⟨rfl, rfl⟩
            clear C3xx
            have g1 : geV l k = ⟨#[]⟩ := by unfold geV; rw [hr]; rfl
            have g2 : geB l k = false := by unfold geB; rw [hr]; rfl
            have PU : puL l k x = l := puL_no (Or.inr hr)
            have DE : deE l k = l := by unfold deE; rw [hr]; rfl
            clear hr hm
            have C3xxx : Hid _ := get_any _ l k w2 R2l.out (by omega)
            rw [g1] at C3xxx
            rw [g2] at C3xxx
            go_wp2_with fail
            refine Calls.mono C3xxx.out ?_
            rintro e w3 ⟨rfl, hb3⟩
            clear C3xxx
            have B3 : Hid (Below w.heap.size w w3) := B2.out.trans (hb3.mono B2.out.size)
            have R3l : Aside (Row encP 2 w3 (.slice ao l.length cap) l) := R2l.out.below hb3
            clear R2l
            clear hb3
            clear g1 g2
            have C4xxxx : Hid _ := rget_any _ l k w3 R3l.out (by omega)
            go_wp2_with fail
            refine Calls.mono C4xxxx.out ?_
            rintro e w4x ⟨rfl, rfl⟩
            clear C4xxxx
            rw [PU] at k6
            rw [DE] at k7
            have CP0 := eput_any _ l k x w3 R3l.out (by omega)
            rw [PU] at CP0
            clear PU
            have C4xxxxx : Hid _ := CP0
            go_wp2_with fail
            refine Calls.mono C4xxxxx.out ?_
            rintro e w4 ⟨v4, rfl, ho4, hb4⟩
            clear C4xxxxx
            obtain ⟨a4, c4, rfl, _⟩ := ho4.row.shape
            have B4 : Hid (Below w.heap.size w w4) := B3.out.trans (hb4.mono B3.out.size)
            have R4l : Aside (Row encP 2 w4 (.slice ao l.length cap) l) := R3l.out.below hb4
            clear R3l
            have S4p : Aside (Row encP 2 w4 (.slice a4 (l).length c4) (l)) := ho4.row
            clear ho4 hb4
            clear CP0
            have CD0 := delete_any _ l k w4 R4l.out (by omega)
            rw [DE] at CD0
            clear DE
            have C5xxxxxx : Hid _ := CD0
            go_wp2_with fail
            refine Calls.mono C5xxxxxx.out ?_
            rintro e w5 ⟨v5, rfl, ho5, hb5⟩
            clear C5xxxxxx
            obtain ⟨a5, c5, rfl, _⟩ := ho5.row.shape
            have B5 : Hid (Below w.heap.size w w5) := B4.out.trans (hb5.mono B4.out.size)
            have R5l : Aside (Row encP 2 w5 (.slice ao l.length cap) l) := R4l.out.below hb5
            clear R4l
            have R5p : Aside (Row encP 2 w5 (.slice a4 (l).length c4) (l)) := S4p.out.below hb5
            clear S4p
            have S5d : Aside (Row encP 2 w5 (.slice a5 (l).length c5) (l)) := ho5.row
            clear ho5 hb5
            clear CD0
            generalize gtV l k = gg at *
            generalize fdB l k = ff at *
            have C6xxxxxxx : Hid _ := same_any _ _ l l w5 R5p.out R5l.out (by omega) (by omega)
            rw [decide_eq_true (rfl : l = l)] at C6xxxxxxx
            go_wp2_with fail
            refine Calls.mono C6xxxxxxx.out ?_
            rintro e w6 ⟨rfl, hb6⟩
            clear C6xxxxxxx
            have B6 : Hid (Below w.heap.size w w6) := B5.out.trans (hb6.mono B5.out.size)
            have R6l : Aside (Row encP 2 w6 (.slice ao l.length cap) l) := R5l.out.below hb6
            clear R5l
            have R6p : Aside (Row encP 2 w6 (.slice a4 (l).length c4) (l)) := R5p.out.below hb6
            clear R5p
            have R6d : Aside (Row encP 2 w6 (.slice a5 (l).length c5) (l)) := S5d.out.below hb6
            clear S5d
            clear hb6
            have C7xxxxxxxx : Hid _ := same_any _ _ l l w6 R6d.out R6l.out (by omega) (by omega)
            rw [decide_eq_true (rfl : l = l)] at C7xxxxxxxx
            go_wp2_with fail
            refine Calls.mono C7xxxxxxxx.out ?_
            rintro e w7 ⟨rfl, hb7⟩
            clear C7xxxxxxxx
            have B7 : Hid (Below w.heap.size w w7) := B6.out.trans (hb7.mono B6.out.size)
            have R7l : Aside (Row encP 2 w7 (.slice ao l.length cap) l) := R6l.out.below hb7
            clear R6l
            have R7p : Aside (Row encP 2 w7 (.slice a4 (l).length c4) (l)) := R6p.out.below hb7
            clear R6p
            have R7d : Aside (Row encP 2 w7 (.slice a5 (l).length c5) (l)) := R6d.out.below hb7
            clear R6d
            clear hb7
            go_wp2
            go_ret
            exact ⟨rfl, B7.out⟩
          | true =>
            have C2x : Hid _ := rright_any _ l w1 R1l.out hln
            rw [hr] at C2x
            go_wp2_with fail
            refine Calls.mono C2x.out ?_
            rintro e w2 ⟨rfl, hb2⟩
            clear C2x
            have B2 : Hid (Below w.heap.size w w2) := B1.out.trans (hb2.mono B1.out.size)
            have R2l : Aside (Row encP 2 w2 (.slice ao l.length cap) l) := R1l.out.below hb2
            clear R1l
            clear hb2
            have C3xx : Hid _ := check_any k x w2
            rw [chkE_of] at C3xx
            rw [hm] at C3xx
            rw [show (if false = true then (0 : Int) else 110) = 110 from rfl] at C3xx
            go_wp2_with fail
            refine Calls.mono C3xx.out ?_
            rintro e w3x ⟨rfl, rfl⟩
            clear C3xx
            have RG : Hid (Rg l) := rg_of hr
            obtain ⟨g1, g2⟩ := geV_right (k := k) RG.out
            have PU : puL l k x = l := puL_no (Or.inl hm)
            have DE : deE l k = dlL l k := deE_right RG.out
            clear hr hm
            have C3xxx : Hid _ := get_any _ l k w2 R2l.out (by omega)
            rw [g1] at C3xxx
            rw [g2] at C3xxx
            go_wp2_with fail
            refine Calls.mono C3xxx.out ?_
            rintro e w3 ⟨rfl, hb3⟩
            clear C3xxx
            have B3 : Hid (Below w.heap.size w w3) := B2.out.trans (hb3.mono B2.out.size)
            have R3l : Aside (Row encP 2 w3 (.slice ao l.length cap) l) := R2l.out.below hb3
            clear R2l
            clear hb3
            clear g1 g2
            have C4xxxx : Hid _ := rget_any _ l k w3 R3l.out (by omega)
            go_wp2_with fail
            refine Calls.mono C4xxxx.out ?_
            rintro e w4x ⟨rfl, rfl⟩
            clear C4xxxx
            rw [PU] at k6
            rw [DE] at k7
            have CP0 := eput_any _ l k x w3 R3l.out (by omega)
            rw [PU] at CP0
            clear PU
            have C4xxxxx : Hid _ := CP0
            go_wp2_with fail
            refine Calls.mono C4xxxxx.out ?_
            rintro e w4 ⟨v4, rfl, ho4, hb4⟩
            clear C4xxxxx
            obtain ⟨a4, c4, rfl, _⟩ := ho4.row.shape
            have B4 : Hid (Below w.heap.size w w4) := B3.out.trans (hb4.mono B3.out.size)
            have R4l : Aside (Row encP 2 w4 (.slice ao l.length cap) l) := R3l.out.below hb4
            clear R3l
            have S4p : Aside (Row encP 2 w4 (.slice a4 (l).length c4) (l)) := ho4.row
            clear ho4 hb4
            clear CP0
            have CD0 := delete_any _ l k w4 R4l.out (by omega)
            rw [DE] at CD0
            have CE0 := fun W v (h : Row encP 2 W v l) => rdel_any v l k W h (by omega)
            clear DE
            generalize dlL l k = dd at *
            have C5xxxxxx : Hid _ := CD0
            go_wp2_with fail
            refine Calls.mono C5xxxxxx.out ?_
            rintro e w5 ⟨v5, rfl, ho5, hb5⟩
            clear C5xxxxxx
            obtain ⟨a5, c5, rfl, _⟩ := ho5.row.shape
            have B5 : Hid (Below w.heap.size w w5) := B4.out.trans (hb5.mono B4.out.size)
            have R5l : Aside (Row encP 2 w5 (.slice ao l.length cap) l) := R4l.out.below hb5
            clear R4l
            have R5p : Aside (Row encP 2 w5 (.slice a4 (l).length c4) (l)) := S4p.out.below hb5
            clear S4p
            have S5d : Aside (Row encP 2 w5 (.slice a5 (dd).length c5) (dd)) := ho5.row
            clear ho5 hb5
            clear CD0
            have C6xxxxxxx : Hid _ := find_any _ l k w5 R5l.out (by omega)
            go_wp2_with fail
            refine Calls.mono C6xxxxxxx.out ?_
            rintro e w6 ⟨fi, ff, rfl, hf6, hb6⟩
            clear C6xxxxxxx
            have B6 : Hid (Below w.heap.size w w6) := B5.out.trans (hb6.mono B5.out.size)
            have R6l : Aside (Row encP 2 w6 (.slice ao l.length cap) l) := R5l.out.below hb6
            clear R5l
            have R6p : Aside (Row encP 2 w6 (.slice a4 (l).length c4) (l)) := R5p.out.below hb6
            clear R5p
            have R6d : Aside (Row encP 2 w6 (.slice a5 (dd).length c5) (dd)) := S5d.out.below hb6
            clear S5d
            obtain ⟨f1, f2⟩ := hf6.2.2 RG.out
            subst f1 f2
            clear hf6 hb6
            generalize gtV l k = gg at *
            generalize fdB l k = ffb at *
            obtain ⟨ao1, cap1, e1, _, _, h3⟩ := R6l.out
            cases e1
            have H3 : Aside (l ≠ [] → ∃ b off, ao = some ⟨b, off, none⟩ ∧ b < w6.heap.size ∧ CellsK encP 2 w6 b off l) := h3
            clear h3
            go_wp2
            go_loopg [23] l.length (fun kx s23 wr => ∃ (i : Nat), s23 = .int .i64 i ∧ i ≤ l.length ∧ l.length - i ≤ kx ∧ w6 = wr ∧ Hid (∀ t, t < i → ltK l[t]!.1 k = true))
            case atStart => exact ⟨0, rfl, Nat.zero_le _, Nat.le_refl _, rfl, fun t ht => absurd ht (Nat.not_lt_zero _)⟩
            case round =>
              obtain ⟨i, rfl, hi, hki, rfl, HN⟩ := hrel
              by_cases hil : i < l.length
              ·
                have hilz : (i : Int) < (l.length : Int) := by omega
                obtain ⟨b, off, rfl, hb, x1, x2⟩ := row_at H3.out i hil (Below.refl _ w6)
                obtain ⟨y, hy⟩ : ∃ y, l[i]! = y := ⟨_, rfl⟩
                rw [hy] at x1 x2
                cases hlt : ltK y.1 k with
                | true =>
                  have hlt2 : Op.bytesLess y.1.toList k.toList = true := hlt
                  have N2 : Hid (∀ t, t < i + 1 → ltK l[t]!.1 k = true) := fun t ht => by
                    rcases Nat.lt_or_ge t i with c | c
                    · exact HN.out t c
                    · rw [show t = i by omega, hy]; exact hlt
                  clear hlt hy HN
                  go_wp2
                  go_roundg (l.length - (i + 1))
                  case measure => omega
                  case rel => exact ⟨i + 1, by go_num, by omega, Nat.le_refl _, rfl, N2⟩
                | false =>
                  have hlt2 : Op.bytesLess y.1.toList k.toList = false := hlt
                  have EI := fdN_of (k := k) RG.out hi HN.out (fun t ht htl => by
                    cases e : ltK l[t]!.1 k
                    · rfl
                    · exfalso
                      rcases Nat.lt_or_ge i t with c | c
                      · have := ltK_trans (RG.out.up.at c htl) e
                        rw [hy, hlt] at this
                        cases this
                      · rw [show t = i by omega, hy, hlt] at e; cases e)
                  clear hlt hy HN
                  obtain ⟨fn, hfn⟩ : ∃ fn, fdN l k = fn := ⟨_, rfl⟩
                  rw [hfn] at EI ⊢
                  subst EI
                  clear hfn
                  have C7x : Hid _ := same_any _ _ l l w6 R6p.out R6l.out (by omega) (by omega)
                  rw [decide_eq_true (rfl : l = l)] at C7x
                  go_wp2_with fail
                  refine Calls.mono C7x.out ?_
                  rintro e w7 ⟨rfl, hb7⟩
                  clear C7x
                  have B7 : Hid (Below w.heap.size w w7) := B6.out.trans (hb7.mono B6.out.size)
                  have R7l : Aside (Row encP 2 w7 (.slice (some ⟨b, off, none⟩) l.length cap) l) := R6l.out.below hb7
                  clear R6l
                  have R7p : Aside (Row encP 2 w7 (.slice a4 (l).length c4) (l)) := R6p.out.below hb7
                  clear R6p
                  have R7d : Aside (Row encP 2 w7 (.slice a5 (dd).length c5) (dd)) := R6d.out.below hb7
                  clear R6d
                  clear hb7
                  have C8xx : Hid _ := CE0 w7 _ R7l.out
                  go_wp2_with fail
                  refine Calls.mono C8xx.out ?_
                  rintro e w8 ⟨v8, rfl, ho8, hb8⟩
                  clear C8xx
                  obtain ⟨a8, c8, rfl, _⟩ := ho8.row.shape
                  have B8 : Hid (Below w.heap.size w w8) := B7.out.trans (hb8.mono B7.out.size)
                  have R8l : Aside (Row encP 2 w8 (.slice (some ⟨b, off, none⟩) l.length cap) l) := R7l.out.below hb8
                  clear R7l
                  have R8p : Aside (Row encP 2 w8 (.slice a4 (l).length c4) (l)) := R7p.out.below hb8
                  clear R7p
                  have R8d : Aside (Row encP 2 w8 (.slice a5 (dd).length c5) (dd)) := R7d.out.below hb8
                  clear R7d
                  have S8e : Aside (Row encP 2 w8 (.slice a8 (dd).length c8) (dd)) := ho8.row
                  clear ho8 hb8
                  have C9xxx : Hid _ := same_any _ _ dd dd w8 R8d.out S8e.out (by omega) (by omega)
                  rw [decide_eq_true (rfl : dd = dd)] at C9xxx
                  go_wp2_with fail
                  refine Calls.mono C9xxx.out ?_
                  rintro e w9 ⟨rfl, hb9⟩
                  clear C9xxx
                  have B9 : Hid (Below w.heap.size w w9) := B8.out.trans (hb9.mono B8.out.size)
                  have R9l : Aside (Row encP 2 w9 (.slice (some ⟨b, off, none⟩) l.length cap) l) := R8l.out.below hb9
                  clear R8l
                  have R9p : Aside (Row encP 2 w9 (.slice a4 (l).length c4) (l)) := R8p.out.below hb9
                  clear R8p
                  have R9d : Aside (Row encP 2 w9 (.slice a5 (dd).length c5) (dd)) := R8d.out.below hb9
                  clear R8d
                  have R9e : Aside (Row encP 2 w9 (.slice a8 (dd).length c8) (dd)) := S8e.out.below hb9
                  clear S8e
                  clear hb9
                  clear CE0
                  go_wp2
                  go_ret
                  exact ⟨rfl, B9.out⟩
              ·
                have hilz : ¬ (i : Int) < (l.length : Int) := by omega
                have EI := fdN_of (k := k) RG.out hi HN.out (fun t ht htl => by omega)
                clear HN
                obtain ⟨fn, hfn⟩ : ∃ fn, fdN l k = fn := ⟨_, rfl⟩
                rw [hfn] at EI ⊢
                subst EI
                clear hfn
                have C7x : Hid _ := same_any _ _ l l w6 R6p.out R6l.out (by omega) (by omega)
                rw [decide_eq_true (rfl : l = l)] at C7x
                go_wp2_with fail
                refine Calls.mono C7x.out ?_
                rintro e w7 ⟨rfl, hb7⟩
                clear C7x
                have B7 : Hid (Below w.heap.size w w7) := B6.out.trans (hb7.mono B6.out.size)
                have R7l : Aside (Row encP 2 w7 (.slice ao l.length cap) l) := R6l.out.below hb7
                clear R6l
                have R7p : Aside (Row encP 2 w7 (.slice a4 (l).length c4) (l)) := R6p.out.below hb7
                clear R6p
                have R7d : Aside (Row encP 2 w7 (.slice a5 (dd).length c5) (dd)) := R6d.out.below hb7
                clear R6d
                clear hb7
                have C8xx : Hid _ := CE0 w7 _ R7l.out
                go_wp2_with fail
                refine Calls.mono C8xx.out ?_
                rintro e w8 ⟨v8, rfl, ho8, hb8⟩
                clear C8xx
                obtain ⟨a8, c8, rfl, _⟩ := ho8.row.shape
                have B8 : Hid (Below w.heap.size w w8) := B7.out.trans (hb8.mono B7.out.size)
                have R8l : Aside (Row encP 2 w8 (.slice ao l.length cap) l) := R7l.out.below hb8
                clear R7l
                have R8p : Aside (Row encP 2 w8 (.slice a4 (l).length c4) (l)) := R7p.out.below hb8
                clear R7p
                have R8d : Aside (Row encP 2 w8 (.slice a5 (dd).length c5) (dd)) := R7d.out.below hb8
                clear R7d
                have S8e : Aside (Row encP 2 w8 (.slice a8 (dd).length c8) (dd)) := ho8.row
                clear ho8 hb8
                have C9xxx : Hid _ := same_any _ _ dd dd w8 R8d.out S8e.out (by omega) (by omega)
                rw [decide_eq_true (rfl : dd = dd)] at C9xxx
                go_wp2_with fail
                refine Calls.mono C9xxx.out ?_
                rintro e w9 ⟨rfl, hb9⟩
                clear C9xxx
                have B9 : Hid (Below w.heap.size w w9) := B8.out.trans (hb9.mono B8.out.size)
                have R9l : Aside (Row encP 2 w9 (.slice ao l.length cap) l) := R8l.out.below hb9
                clear R8l
                have R9p : Aside (Row encP 2 w9 (.slice a4 (l).length c4) (l)) := R8p.out.below hb9
                clear R8p
                have R9d : Aside (Row encP 2 w9 (.slice a5 (dd).length c5) (dd)) := R8d.out.below hb9
                clear R8d
                have R9e : Aside (Row encP 2 w9 (.slice a8 (dd).length c8) (dd)) := S8e.out.below hb9
                clear S8e
                clear hb9
                clear CE0
                go_wp2
                go_ret
                exact ⟨rfl, B9.out⟩
        | true =>
          have C2x : Hid _ := may_any k x w1
          rw [hm] at C2x
          go_wp2_with fail
          refine Calls.mono C2x.out ?_
          rintro e w2x ⟨rfl, rfl⟩
          clear C2x
          cases hr : rgB l with
          | false =>
            have C2x : Hid _ := rright_any _ l w1 R1l.out hln
            rw [hr] at C2x
            go_wp2_with fail
            refine Calls.mono C2x.out ?_
            rintro e w2 ⟨rfl, hb2⟩
            clear C2x
            have B2 : Hid (Below w.heap.size w w2) := B1.out.trans (hb2.mono B1.out.size)
            have R2l : Aside (Row encP 2 w2 (.slice ao l.length cap) l) := R1l.out.below hb2
            clear R1l
            clear hb2
            have C3xx : Hid _ := check_any k x w2
            rw [chkE_of] at C3xx
            rw [hm] at C3xx
            rw [show (if true = true then (0 : Int) else 110) = 0 from rfl] at C3xx
            go_wp2_with fail
            refine Calls.mono C3xx.out ?_
            rintro e w3x ⟨rfl, rfl⟩
            clear C3xx
            have g1 : geV l k = ⟨#[]⟩ := by unfold geV; rw [hr]; rfl
            have g2 : geB l k = false := by unfold geB; rw [hr]; rfl
            have PU : puL l k x = l := puL_no (Or.inr hr)
            have DE : deE l k = l := by unfold deE; rw [hr]; rfl
            clear hr hm
            have C3xxx : Hid _ := get_any _ l k w2 R2l.out (by omega)
            rw [g1] at C3xxx
            rw [g2] at C3xxx
            go_wp2_with fail
            refine Calls.mono C3xxx.out ?_
            rintro e w3 ⟨rfl, hb3⟩
            clear C3xxx
            have B3 : Hid (Below w.heap.size w w3) := B2.out.trans (hb3.mono B2.out.size)
            have R3l : Aside (Row encP 2 w3 (.slice ao l.length cap) l) := R2l.out.below hb3
            clear R2l
            clear hb3
            clear g1 g2
            have C4xxxx : Hid _ := rget_any _ l k w3 R3l.out (by omega)
            go_wp2_with fail
            refine Calls.mono C4xxxx.out ?_
            rintro e w4x ⟨rfl, rfl⟩
            clear C4xxxx
            rw [PU] at k6
            rw [DE] at k7
            have CP0 := eput_any _ l k x w3 R3l.out (by omega)
            rw [PU] at CP0
            clear PU
            have C4xxxxx : Hid _ := CP0
            go_wp2_with fail
            refine Calls.mono C4xxxxx.out ?_
            rintro e w4 ⟨v4, rfl, ho4, hb4⟩
            clear C4xxxxx
            obtain ⟨a4, c4, rfl, _⟩ := ho4.row.shape
            have B4 : Hid (Below w.heap.size w w4) := B3.out.trans (hb4.mono B3.out.size)
            have R4l : Aside (Row encP 2 w4 (.slice ao l.length cap) l) := R3l.out.below hb4
            clear R3l
            have S4p : Aside (Row encP 2 w4 (.slice a4 (l).length c4) (l)) := ho4.row
            clear ho4 hb4
            clear CP0
            have CD0 := delete_any _ l k w4 R4l.out (by omega)
            rw [DE] at CD0
            clear DE
            have C5xxxxxx : Hid _ := CD0
            go_wp2_with fail
            refine Calls.mono C5xxxxxx.out ?_
            rintro e w5 ⟨v5, rfl, ho5, hb5⟩
            clear C5xxxxxx
            obtain ⟨a5, c5, rfl, _⟩ := ho5.row.shape
            have B5 : Hid (Below w.heap.size w w5) := B4.out.trans (hb5.mono B4.out.size)
            have R5l : Aside (Row encP 2 w5 (.slice ao l.length cap) l) := R4l.out.below hb5
            clear R4l
            have R5p : Aside (Row encP 2 w5 (.slice a4 (l).length c4) (l)) := S4p.out.below hb5
            clear S4p
            have S5d : Aside (Row encP 2 w5 (.slice a5 (l).length c5) (l)) := ho5.row
            clear ho5 hb5
            clear CD0
            generalize gtV l k = gg at *
            generalize fdB l k = ff at *
            have C6xxxxxxx : Hid _ := same_any _ _ l l w5 R5p.out R5l.out (by omega) (by omega)
            rw [decide_eq_true (rfl : l = l)] at C6xxxxxxx
            go_wp2_with fail
            refine Calls.mono C6xxxxxxx.out ?_
            rintro e w6 ⟨rfl, hb6⟩
            clear C6xxxxxxx
            have B6 : Hid (Below w.heap.size w w6) := B5.out.trans (hb6.mono B5.out.size)
            have R6l : Aside (Row encP 2 w6 (.slice ao l.length cap) l) := R5l.out.below hb6
            clear R5l
            have R6p : Aside (Row encP 2 w6 (.slice a4 (l).length c4) (l)) := R5p.out.below hb6
            clear R5p
            have R6d : Aside (Row encP 2 w6 (.slice a5 (l).length c5) (l)) := S5d.out.below hb6
            clear S5d
            clear hb6
            have C7xxxxxxxx : Hid _ := same_any _ _ l l w6 R6d.out R6l.out (by omega) (by omega)
            rw [decide_eq_true (rfl : l = l)] at C7xxxxxxxx
            go_wp2_with fail
            refine Calls.mono C7xxxxxxxx.out ?_
            rintro e w7 ⟨rfl, hb7⟩
            clear C7xxxxxxxx
            have B7 : Hid (Below w.heap.size w w7) := B6.out.trans (hb7.mono B6.out.size)
            have R7l : Aside (Row encP 2 w7 (.slice ao l.length cap) l) := R6l.out.below hb7
            clear R6l
            have R7p : Aside (Row encP 2 w7 (.slice a4 (l).length c4) (l)) := R6p.out.below hb7
            clear R6p
            have R7d : Aside (Row encP 2 w7 (.slice a5 (l).length c5) (l)) := R6d.out.below hb7
            clear R6d
            clear hb7
            go_wp2
            go_ret
            exact ⟨rfl, B7.out⟩
          | true =>
            have C2x : Hid _ := rright_any _ l w1 R1l.out hln
            rw [hr] at C2x
            go_wp2_with fail
            refine Calls.mono C2x.out ?_
            rintro e w2 ⟨rfl, hb2⟩
            clear C2x
            have B2 : Hid (Below w.heap.size w w2) := B1.out.trans (hb2.mono B1.out.size)
            have R2l : Aside (Row encP 2 w2 (.slice ao l.length cap) l) := R1l.out.below hb2
            clear R1l
            clear hb2
            have C3xx : Hid _ := check_any k x w2
            rw [chkE_of] at C3xx
            rw [hm] at C3xx
            rw [show (if true = true then (0 : Int) else 110) = 0 from rfl] at C3xx
            go_wp2_with fail
            refine Calls.mono C3xx.out ?_
            rintro e w3x ⟨rfl, rfl⟩
            clear C3xx
            have RG : Hid (Rg l) := rg_of hr
            obtain ⟨g1, g2⟩ := geV_right (k := k) RG.out
            have PU : puL l k x = ptL l k x := puL_right RG.out hm
            have DE : deE l k = dlL l k := deE_right RG.out
            clear hr hm
            have C3xxx : Hid _ := get_any _ l k w2 R2l.out (by omega)
            rw [g1] at C3xxx
            rw [g2] at C3xxx
            go_wp2_with fail
            refine Calls.mono C3xxx.out ?_
            rintro e w3 ⟨rfl, hb3⟩
            clear C3xxx
            have B3 : Hid (Below w.heap.size w w3) := B2.out.trans (hb3.mono B2.out.size)
            have R3l : Aside (Row encP 2 w3 (.slice ao l.length cap) l) := R2l.out.below hb3
            clear R2l
            clear hb3
            clear g1 g2
            have C4xxxx : Hid _ := rget_any _ l k w3 R3l.out (by omega)
            go_wp2_with fail
            refine Calls.mono C4xxxx.out ?_
            rintro e w4x ⟨rfl, rfl⟩
            clear C4xxxx
            rw [PU] at k6
            rw [DE] at k7
            have CP0 := eput_any _ l k x w3 R3l.out (by omega)
            rw [PU] at CP0
            have CQ0 := fun W v (h : Row encP 2 W v l) => rput_any v l k x W h (by omega)
            clear PU
            generalize ptL l k x = pp at *
            have C4xxxxx : Hid _ := CP0
            go_wp2_with fail
            refine Calls.mono C4xxxxx.out ?_
            rintro e w4 ⟨v4, rfl, ho4, hb4⟩
            clear C4xxxxx
            obtain ⟨a4, c4, rfl, _⟩ := ho4.row.shape
            have B4 : Hid (Below w.heap.size w w4) := B3.out.trans (hb4.mono B3.out.size)
            have R4l : Aside (Row encP 2 w4 (.slice ao l.length cap) l) := R3l.out.below hb4
            clear R3l
            have S4p : Aside (Row encP 2 w4 (.slice a4 (pp).length c4) (pp)) := ho4.row
            clear ho4 hb4
            clear CP0
            have CD0 := delete_any _ l k w4 R4l.out (by omega)
            rw [DE] at CD0
            have CE0 := fun W v (h : Row encP 2 W v l) => rdel_any v l k W h (by omega)
            clear DE
            generalize dlL l k = dd at *
            have C5xxxxxx : Hid _ := CD0
            go_wp2_with fail
            refine Calls.mono C5xxxxxx.out ?_
            rintro e w5 ⟨v5, rfl, ho5, hb5⟩
            clear C5xxxxxx
            obtain ⟨a5, c5, rfl, _⟩ := ho5.row.shape
            have B5 : Hid (Below w.heap.size w w5) := B4.out.trans (hb5.mono B4.out.size)
            have R5l : Aside (Row encP 2 w5 (.slice ao l.length cap) l) := R4l.out.below hb5
            clear R4l
            have R5p : Aside (Row encP 2 w5 (.slice a4 (pp).length c4) (pp)) := S4p.out.below hb5
            clear S4p
            have S5d : Aside (Row encP 2 w5 (.slice a5 (dd).length c5) (dd)) := ho5.row
            clear ho5 hb5
            clear CD0
            have C6xxxxxxx : Hid _ := CQ0 w5 _ R5l.out
            go_wp2_with fail
            refine Calls.mono C6xxxxxxx.out ?_
            rintro e w6 ⟨v6, rfl, ho6, hb6⟩
            clear C6xxxxxxx
            obtain ⟨a6, c6, rfl, _⟩ := ho6.row.shape
            have B6 : Hid (Below w.heap.size w w6) := B5.out.trans (hb6.mono B5.out.size)
            have R6l : Aside (Row encP 2 w6 (.slice ao l.length cap) l) := R5l.out.below hb6
            clear R5l
            have R6p : Aside (Row encP 2 w6 (.slice a4 (pp).length c4) (pp)) := R5p.out.below hb6
            clear R5p
            have R6d : Aside (Row encP 2 w6 (.slice a5 (dd).length c5) (dd)) := S5d.out.below hb6
            clear S5d
            have S6q : Aside (Row encP 2 w6 (.slice a6 (pp).length c6) (pp)) := ho6.row
            clear ho6 hb6
            clear CQ0
            have C7xxxxxxxx : Hid _ := find_any _ l k w6 R6l.out (by omega)
            go_wp2_with fail
            refine Calls.mono C7xxxxxxxx.out ?_
            rintro e w7 ⟨fi, ff, rfl, hf7, hb7⟩
            clear C7xxxxxxxx
            have B7 : Hid (Below w.heap.size w w7) := B6.out.trans (hb7.mono B6.out.size)
            have R7l : Aside (Row encP 2 w7 (.slice ao l.length cap) l) := R6l.out.below hb7
            clear R6l
            have R7p : Aside (Row encP 2 w7 (.slice a4 (pp).length c4) (pp)) := R6p.out.below hb7
            clear R6p
            have R7d : Aside (Row encP 2 w7 (.slice a5 (dd).length c5) (dd)) := R6d.out.below hb7
            clear R6d
            have R7q : Aside (Row encP 2 w7 (.slice a6 (pp).length c6) (pp)) := S6q.out.below hb7
            clear S6q
            obtain ⟨f1, f2⟩ := hf7.2.2 RG.out
            subst f1 f2
            clear hf7 hb7
            generalize gtV l k = gg at *
            generalize fdB l k = ffb at *
            obtain ⟨ao1, cap1, e1, _, _, h3⟩ := R7l.out
            cases e1
            have H3 : Aside (l ≠ [] → ∃ b off, ao = some ⟨b, off, none⟩ ∧ b < w7.heap.size ∧ CellsK encP 2 w7 b off l) := h3
            clear h3
            go_wp2
            go_loopg [23] l.length (fun kx s23 wr => ∃ (i : Nat), s23 = .int .i64 i ∧ i ≤ l.length ∧ l.length - i ≤ kx ∧ w7 = wr ∧ Hid (∀ t, t < i → ltK l[t]!.1 k = true))
            case atStart => exact ⟨0, rfl, Nat.zero_le _, Nat.le_refl _, rfl, fun t ht => absurd ht (Nat.not_lt_zero _)⟩
            case round =>
              obtain ⟨i, rfl, hi, hki, rfl, HN⟩ := hrel
              by_cases hil : i < l.length
              ·
                have hilz : (i : Int) < (l.length : Int) := by omega
                obtain ⟨b, off, rfl, hb, x1, x2⟩ := row_at H3.out i hil (Below.refl _ w7)
                obtain ⟨y, hy⟩ : ∃ y, l[i]! = y := ⟨_, rfl⟩
                rw [hy] at x1 x2
                cases hlt : ltK y.1 k with
                | true =>
                  have hlt2 : Op.bytesLess y.1.toList k.toList = true := hlt
                  have N2 : Hid (∀ t, t < i + 1 → ltK l[t]!.1 k = true) := fun t ht => by
                    rcases Nat.lt_or_ge t i with c | c
                    · exact HN.out t c
                    · rw [show t = i by omega, hy]; exact hlt
                  clear hlt hy HN
                  go_wp2
                  go_roundg (l.length - (i + 1))
                  case measure => omega
                  case rel => exact ⟨i + 1, by go_num, by omega, Nat.le_refl _, rfl, N2⟩
                | false =>
                  have hlt2 : Op.bytesLess y.1.toList k.toList = false := hlt
                  have EI := fdN_of (k := k) RG.out hi HN.out (fun t ht htl => by
                    cases e : ltK l[t]!.1 k
                    · rfl
                    · exfalso
                      rcases Nat.lt_or_ge i t with c | c
                      · have := ltK_trans (RG.out.up.at c htl) e
                        rw [hy, hlt] at this
                        cases this
                      · rw [show t = i by omega, hy, hlt] at e; cases e)
                  clear hlt hy HN
                  obtain ⟨fn, hfn⟩ : ∃ fn, fdN l k = fn := ⟨_, rfl⟩
                  rw [hfn] at EI ⊢
                  subst EI
                  clear hfn
                  have C8x : Hid _ := same_any _ _ pp pp w7 R7p.out R7q.out (by omega) (by omega)
                  rw [decide_eq_true (rfl : pp = pp)] at C8x
                  go_wp2_with fail
                  refine Calls.mono C8x.out ?_
                  rintro e w8 ⟨rfl, hb8⟩
                  clear C8x
                  have B8 : Hid (Below w.heap.size w w8) := B7.out.trans (hb8.mono B7.out.size)
                  have R8l : Aside (Row encP 2 w8 (.slice (some ⟨b, off, none⟩) l.length cap) l) := R7l.out.below hb8
                  clear R7l
                  have R8p : Aside (Row encP 2 w8 (.slice a4 (pp).length c4) (pp)) := R7p.out.below hb8
                  clear R7p
                  have R8d : Aside (Row encP 2 w8 (.slice a5 (dd).length c5) (dd)) := R7d.out.below hb8
                  clear R7d
                  have R8q : Aside (Row encP 2 w8 (.slice a6 (pp).length c6) (pp)) := R7q.out.below hb8
                  clear R7q
                  clear hb8
                  have C9xx : Hid _ := CE0 w8 _ R8l.out
                  go_wp2_with fail
                  refine Calls.mono C9xx.out ?_
                  rintro e w9 ⟨v9, rfl, ho9, hb9⟩
                  clear C9xx
                  obtain ⟨a9, c9, rfl, _⟩ := ho9.row.shape
                  have B9 : Hid (Below w.heap.size w w9) := B8.out.trans (hb9.mono B8.out.size)
                  have R9l : Aside (Row encP 2 w9 (.slice (some ⟨b, off, none⟩) l.length cap) l) := R8l.out.below hb9
                  clear R8l
                  have R9p : Aside (Row encP 2 w9 (.slice a4 (pp).length c4) (pp)) := R8p.out.below hb9
                  clear R8p
                  have R9d : Aside (Row encP 2 w9 (.slice a5 (dd).length c5) (dd)) := R8d.out.below hb9
                  clear R8d
                  have R9q : Aside (Row encP 2 w9 (.slice a6 (pp).length c6) (pp)) := R8q.out.below hb9
                  clear R8q
                  have S9e : Aside (Row encP 2 w9 (.slice a9 (dd).length c9) (dd)) := ho9.row
                  clear ho9 hb9
                  have C10xxx : Hid _ := same_any _ _ dd dd w9 R9d.out S9e.out (by omega) (by omega)
                  rw [decide_eq_true (rfl : dd = dd)] at C10xxx
                  go_wp2_with fail
                  refine Calls.mono C10xxx.out ?_
                  rintro e w10 ⟨rfl, hb10⟩
                  clear C10xxx
                  have B10 : Hid (Below w.heap.size w w10) := B9.out.trans (hb10.mono B9.out.size)
                  have R10l : Aside (Row encP 2 w10 (.slice (some ⟨b, off, none⟩) l.length cap) l) := R9l.out.below hb10
                  clear R9l
                  have R10p : Aside (Row encP 2 w10 (.slice a4 (pp).length c4) (pp)) := R9p.out.below hb10
                  clear R9p
                  have R10d : Aside (Row encP 2 w10 (.slice a5 (dd).length c5) (dd)) := R9d.out.below hb10
                  clear R9d
                  have R10q : Aside (Row encP 2 w10 (.slice a6 (pp).length c6) (pp)) := R9q.out.below hb10
                  clear R9q
                  have R10e : Aside (Row encP 2 w10 (.slice a9 (dd).length c9) (dd)) := S9e.out.below hb10
                  clear S9e
                  clear hb10
                  clear CE0
                  go_wp2
                  go_ret
                  exact ⟨rfl, B10.out⟩
              ·
                have hilz : ¬ (i : Int) < (l.length : Int) := by omega
                have EI := fdN_of (k := k) RG.out hi HN.out (fun t ht htl => by omega)
                clear HN
                obtain ⟨fn, hfn⟩ : ∃ fn, fdN l k = fn := ⟨_, rfl⟩
                rw [hfn] at EI ⊢
                subst EI
                clear hfn
                have C8x : Hid _ := same_any _ _ pp pp w7 R7p.out R7q.out (by omega) (by omega)
                rw [decide_eq_true (rfl : pp = pp)] at C8x
                go_wp2_with fail
                refine Calls.mono C8x.out ?_
                rintro e w8 ⟨rfl, hb8⟩
                clear C8x
                have B8 : Hid (Below w.heap.size w w8) := B7.out.trans (hb8.mono B7.out.size)
                have R8l : Aside (Row encP 2 w8 (.slice ao l.length cap) l) := R7l.out.below hb8
                clear R7l
                have R8p : Aside (Row encP 2 w8 (.slice a4 (pp).length c4) (pp)) := R7p.out.below hb8
                clear R7p
                have R8d : Aside (Row encP 2 w8 (.slice a5 (dd).length c5) (dd)) := R7d.out.below hb8
                clear R7d
                have R8q : Aside (Row encP 2 w8 (.slice a6 (pp).length c6) (pp)) := R7q.out.below hb8
                clear R7q
                clear hb8
                have C9xx : Hid _ := CE0 w8 _ R8l.out
                go_wp2_with fail
                refine Calls.mono C9xx.out ?_
                rintro e w9 ⟨v9, rfl, ho9, hb9⟩
                clear C9xx
                obtain ⟨a9, c9, rfl, _⟩ := ho9.row.shape
                have B9 : Hid (Below w.heap.size w w9) := B8.out.trans (hb9.mono B8.out.size)
                have R9l : Aside (Row encP 2 w9 (.slice ao l.length cap) l) := R8l.out.below hb9
                clear R8l
                have R9p : Aside (Row encP 2 w9 (.slice a4 (pp).length c4) (pp)) := R8p.out.below hb9
                clear R8p
                have R9d : Aside (Row encP 2 w9 (.slice a5 (dd).length c5) (dd)) := R8d.out.below hb9
                clear R8d
                have R9q : Aside (Row encP 2 w9 (.slice a6 (pp).length c6) (pp)) := R8q.out.below hb9
                clear R8q
                have S9e : Aside (Row encP 2 w9 (.slice a9 (dd).length c9) (dd)) := ho9.row
                clear ho9 hb9
                have C10xxx : Hid _ := same_any _ _ dd dd w9 R9d.out S9e.out (by omega) (by omega)
                rw [decide_eq_true (rfl : dd = dd)] at C10xxx
                go_wp2_with fail
                refine Calls.mono C10xxx.out ?_
                rintro e w10 ⟨rfl, hb10⟩
                clear C10xxx
                have B10 : Hid (Below w.heap.size w w10) := B9.out.trans (hb10.mono B9.out.size)
                have R10l : Aside (Row encP 2 w10 (.slice ao l.length cap) l) := R9l.out.below hb10
                clear R9l
                have R10p : Aside (Row encP 2 w10 (.slice a4 (pp).length c4) (pp)) := R9p.out.below hb10
                clear R9p
                have R10d : Aside (Row encP 2 w10 (.slice a5 (dd).length c5) (dd)) := R9d.out.below hb10
                clear R9d
                have R10q : Aside (Row encP 2 w10 (.slice a6 (pp).length c6) (pp)) := R9q.out.below hb10
                clear R9q
                have R10e : Aside (Row encP 2 w10 (.slice a9 (dd).length c9) (dd)) := S9e.out.below hb10
                clear S9e
                clear hb10
                clear CE0
                go_wp2
                go_ret
                exact ⟨rfl, B10.out⟩

end Go.Proofs.Ytkoonogfllndhaa

/-
  The walk of the document's examples.
-/
import Derived.Test.YtoigljefajbofaaRnOps
import Derived.Test.YtoigljefajbofaaRnList
import Derived.Test.YtoigljefajbofaaRnRef
namespace Go.Proofs.Ytoigljefajbofaa
open Go.Shelf Go.RowKit Go.Lib Go.Sort

theorem ex_a : nmL [(5, 7), (1, 2), (3, 3)] = [(1, 3), (5, 7)] := by decide +kernel
theorem ex_a2 : nmL [(1, 3), (5, 7)] = [(1, 3), (5, 7)] := by decide +kernel
theorem ex_b : mnL [(1, 9)] [(3, 4), (9, 12)] = [(1, 2), (5, 8)] := by decide +kernel
theorem ex_c : mnL [(1, 3)] [(2, 2)] = [(1, 1), (3, 3)] := by decide +kernel
theorem ex_n : cntL [(1, 3), (5, 7)] = 6 := by decide +kernel
theorem ex_6 : hasB [(1, 3), (5, 7)] 6 = true := by decide +kernel
theorem ex_4 : hasB [(1, 3), (5, 7)] 4 = false := by decide +kernel
theorem ex_l : ((numsL [(1, 3), (5, 7)]).take (9 : Int).toNat).length = 6 := by decide +kernel

theorem first_ex (v : Value) (w : World) (h : Row encP 2 w v [(1, 3), (5, 7)]) : Calls Try.prog 19 #[v] w fun e w' => e = .returned (.tuple #[.int .i64 1, .bool true]) ∧ Below w.heap.size w w' := by
  have := first_any v _ w h (by decide)
  rw [ex_a2] at this
  exact this
theorem same_ex (va vb : Value) (l : List Pr) (w : World) (ha : Row encP 2 w va l) (hb : Row encP 2 w vb l) (hl : l.length ≤ 1000000) : Calls Try.prog 10 #[va, vb] w fun e w' => e = .returned (.bool true) ∧ Below w.heap.size w w' := by
  have := same_any va vb l l w ha hb hl hl
  rw [decide_eq_true rfl] at this
  exact this
theorem count_ex (v : Value) (w : World) (h : Row encP 2 w v [(1, 3), (5, 7)]) : Calls Try.prog 22 #[v] w fun e w' => e = .returned (.int .i64 6) ∧ Below w.heap.size w w' := by
  have := count_any v _ w h (by decide)
  rw [ex_a2, ex_n] at this
  exact this
theorem has_ex6 (v : Value) (w : World) (h : Row encP 2 w v [(1, 3), (5, 7)]) : Calls Try.prog 20 #[v, .int .i64 6] w fun e w' => e = .returned (.bool true) ∧ Below w.heap.size w w' := by
  have := has_any v _ 6 w h (by decide)
  rw [ex_6] at this
  exact this
theorem has_ex4 (v : Value) (w : World) (h : Row encP 2 w v [(1, 3), (5, 7)]) : Calls Try.prog 20 #[v, .int .i64 4] w fun e w' => e = .returned (.bool false) ∧ Below w.heap.size w w' := by
  have := has_any v _ 4 w h (by decide)
  rw [ex_4] at this
  exact this
theorem list_ex (v : Value) (w : World) (h : Row encP 2 w v [(1, 3), (5, 7)]) : Calls Try.prog 24 #[v, .int .i64 9] w fun e w' => (∃ ao c, e = .returned (.slice ao 6 c)) ∧ Below w.heap.size w w' := by
  refine (list_any v _ 9 w h (by decide)).mono ?_
  rintro e w' ⟨v', rfl, ho, hb⟩
  rw [ex_a2] at ho
  refine ⟨?_, hb⟩
  have e := ex_l
  generalize (numsL [(1, 3), (5, 7)]).take (9 : Int).toNat = L at *
  rcases ho.2 with ⟨rfl, e2⟩ | ⟨g, cap, cur, rfl, _⟩
  · omega
  · exact ⟨_, cap, by rw [e]⟩

set_option maxRecDepth 100000 in
set_option maxHeartbeats 4000000 in
theorem works_any (w : World) : Calls Try.prog 9 #[] w fun r w' => r = .returned (.bool true) ∧ Below w.heap.size w w' := by
  have B0 : Hid (Below w.heap.size w w) := Below.refl _ _
  go_enter Try.func9, Try.ntmps9
  have L1 : Hid (Below w.heap.size w (w.alloc (.cells #[.int .i64 5, .int .i64 7, .int .i64 1, .int .i64 2, .int .i64 3, .int .i64 3] 29))) := ((Below.refl w.heap.size w).alloc (Nat.le_refl _) _)
  have Qla : Hid (Row encP 2 (w.alloc (.cells #[.int .i64 5, .int .i64 7, .int .i64 1, .int .i64 2, .int .i64 3, .int .i64 3] 29)) (.slice (some ⟨w.heap.size, 0, none⟩) 3 3) [(5, 7), (1, 2), (3, 3)]) := row_block (cs := #[.int .i64 5, .int .i64 7, .int .i64 1, .int .i64 2, .int .i64 3, .int .i64 3]) (heap_alloc_new _ _) (by kernel_rfl) rfl
  go_wp2_with fail
  generalize (w.alloc (.cells #[.int .i64 5, .int .i64 7, .int .i64 1, .int .i64 2, .int .i64 3, .int .i64 3] 29)) = w1 at L1 Qla ⊢
  have B1 : Hid (Below w.heap.size w w1) := B0.out.trans (L1.out.mono B0.out.size)
  clear B0
  clear L1
  have Rla1 : Hid (Row encP 2 w1 _ [(5, 7), (1, 2), (3, 3)]) := Qla
  clear Qla
  have C2 : Hid (Calls Try.prog 11 #[.slice (some ⟨w.heap.size, 0, none⟩) 3 3] w1 (Gives w1 [(1, 3), (5, 7)])) := by
    show Calls _ _ _ _ _
    have := norm_g _ _ w1 Rla1.out (by decide)
    rw [ex_a] at this
    exact this
  refine Calls.mono C2.out ?_
  rintro e w2 ⟨aoa, na, ca, rfl, ra, b2⟩
  obtain ⟨_, _, ka, _⟩ := id ra
  cases ka
  clear C2
  have Rla2 : Hid (Row encP 2 w2 _ [(5, 7), (1, 2), (3, 3)]) := Rla1.out.below b2
  have B2 : Hid (Below w.heap.size w w2) := B1.out.trans (b2.mono B1.out.size)
  clear Rla1 B1
  clear b2
  have Ra2 : Hid (Row encP 2 w2 _ [(1, 3), (5, 7)]) := ra
  clear ra
  clear Rla2
  have L3 : Hid (Below w2.heap.size w2 ((w2.alloc (.cells #[.int .i64 1, .int .i64 9] 29)).alloc (.cells #[.int .i64 3, .int .i64 4, .int .i64 9, .int .i64 12] 29))) := (((Below.refl w2.heap.size w2).alloc (Nat.le_refl _) _).alloc (by simp) _)
  have Qlb : Hid (Row encP 2 ((w2.alloc (.cells #[.int .i64 1, .int .i64 9] 29)).alloc (.cells #[.int .i64 3, .int .i64 4, .int .i64 9, .int .i64 12] 29)) (.slice (some ⟨w2.heap.size, 0, none⟩) 1 1) [(1, 9)]) := row_block (cs := #[.int .i64 1, .int .i64 9]) (by rw [Below.heap_alloc _ _ _ (by simp)]; exact heap_alloc_new _ _) (by kernel_rfl) rfl
  have Qlc : Hid (Row encP 2 ((w2.alloc (.cells #[.int .i64 1, .int .i64 9] 29)).alloc (.cells #[.int .i64 3, .int .i64 4, .int .i64 9, .int .i64 12] 29)) (.slice (some ⟨w2.heap.size + 1, 0, none⟩) 2 2) [(3, 4), (9, 12)]) := row_block (cs := #[.int .i64 3, .int .i64 4, .int .i64 9, .int .i64 12]) (by have := heap_alloc_new (w2.alloc (.cells #[.int .i64 1, .int .i64 9] 29)) (.cells #[.int .i64 3, .int .i64 4, .int .i64 9, .int .i64 12] 29); simp only [World.size_alloc] at this; exact this) (by kernel_rfl) rfl
  go_wp2_with fail
  generalize ((w2.alloc (.cells #[.int .i64 1, .int .i64 9] 29)).alloc (.cells #[.int .i64 3, .int .i64 4, .int .i64 9, .int .i64 12] 29)) = w3 at L3 Qlb Qlc ⊢
  have Ra3 : Hid (Row encP 2 w3 _ [(1, 3), (5, 7)]) := Ra2.out.below L3.out
  have B3 : Hid (Below w.heap.size w w3) := B2.out.trans (L3.out.mono B2.out.size)
  clear Ra2 B2
  clear L3
  have Rlb3 : Hid (Row encP 2 w3 _ [(1, 9)]) := Qlb
  clear Qlb
  have Rlc3 : Hid (Row encP 2 w3 _ [(3, 4), (9, 12)]) := Qlc
  clear Qlc
  have C4 : Hid (Calls Try.prog 15 #[.slice (some ⟨w2.heap.size, 0, none⟩) 1 1, .slice (some ⟨w2.heap.size + 1, 0, none⟩) 2 2] w3 (Gives w3 [(1, 2), (5, 8)])) := by
    show Calls _ _ _ _ _
    have := minus_g _ _ _ _ w3 Rlb3.out Rlc3.out (by decide)
    rw [ex_b] at this
    exact this
  refine Calls.mono C4.out ?_
  rintro e w4 ⟨aob, nb, cb, rfl, rb, b4⟩
  obtain ⟨_, _, kb, _⟩ := id rb
  cases kb
  clear C4
  have Ra4 : Hid (Row encP 2 w4 _ [(1, 3), (5, 7)]) := Ra3.out.below b4
  have Rlb4 : Hid (Row encP 2 w4 _ [(1, 9)]) := Rlb3.out.below b4
  have Rlc4 : Hid (Row encP 2 w4 _ [(3, 4), (9, 12)]) := Rlc3.out.below b4
  have B4 : Hid (Below w.heap.size w w4) := B3.out.trans (b4.mono B3.out.size)
  clear Ra3 Rlb3 Rlc3 B3
  clear b4
  have Rb4 : Hid (Row encP 2 w4 _ [(1, 2), (5, 8)]) := rb
  clear rb
  clear Rlb4 Rlc4
  have L5 : Hid (Below w4.heap.size w4 (w4.alloc (.cells #[.int .i64 1, .int .i64 3] 29))) := ((Below.refl w4.heap.size w4).alloc (Nat.le_refl _) _)
  have Qld : Hid (Row encP 2 (w4.alloc (.cells #[.int .i64 1, .int .i64 3] 29)) (.slice (some ⟨w4.heap.size, 0, none⟩) 1 1) [(1, 3)]) := row_block (cs := #[.int .i64 1, .int .i64 3]) (heap_alloc_new _ _) (by kernel_rfl) rfl
  go_wp2_with fail
  generalize (w4.alloc (.cells #[.int .i64 1, .int .i64 3] 29)) = w5 at L5 Qld ⊢
  have Ra5 : Hid (Row encP 2 w5 _ [(1, 3), (5, 7)]) := Ra4.out.below L5.out
  have Rb5 : Hid (Row encP 2 w5 _ [(1, 2), (5, 8)]) := Rb4.out.below L5.out
  have B5 : Hid (Below w.heap.size w w5) := B4.out.trans (L5.out.mono B4.out.size)
  clear Ra4 Rb4 B4
  clear L5
  have Rld5 : Hid (Row encP 2 w5 _ [(1, 3)]) := Qld
  clear Qld
  have C6 : Hid (Calls Try.prog 18 #[.slice (some ⟨w4.heap.size, 0, none⟩) 1 1, .int .i64 2] w5 (Gives w5 [(1, 1), (3, 3)])) := by
    show Calls _ _ _ _ _
    have := remove_g _ _ 2 w5 Rld5.out (by decide)
    rw [ex_c] at this
    exact this
  refine Calls.mono C6.out ?_
  rintro e w6 ⟨aoc, nc, cc, rfl, rc, b6⟩
  obtain ⟨_, _, kc, _⟩ := id rc
  cases kc
  clear C6
  have Ra6 : Hid (Row encP 2 w6 _ [(1, 3), (5, 7)]) := Ra5.out.below b6
  have Rb6 : Hid (Row encP 2 w6 _ [(1, 2), (5, 8)]) := Rb5.out.below b6
  have Rld6 : Hid (Row encP 2 w6 _ [(1, 3)]) := Rld5.out.below b6
  have B6 : Hid (Below w.heap.size w w6) := B5.out.trans (b6.mono B5.out.size)
  clear Ra5 Rb5 Rld5 B5
  clear b6
  have Rc6 : Hid (Row encP 2 w6 _ [(1, 1), (3, 3)]) := rc
  clear rc
  clear Rld6
  have C7 : Hid (Calls Try.prog 19 #[.slice aoa [(1, 3), (5, 7)].length ca] w6 fun e w' => e = .returned (.tuple #[.int .i64 1, .bool true]) ∧ Below w6.heap.size w6 w') := first_ex _ w6 Ra6.out
  go_wp2_with fail
  refine Calls.mono C7.out ?_
  rintro e w7 ⟨rfl, b7⟩
  clear C7
  have Ra7 : Hid (Row encP 2 w7 _ [(1, 3), (5, 7)]) := Ra6.out.below b7
  have Rb7 : Hid (Row encP 2 w7 _ [(1, 2), (5, 8)]) := Rb6.out.below b7
  have Rc7 : Hid (Row encP 2 w7 _ [(1, 1), (3, 3)]) := Rc6.out.below b7
  have B7 : Hid (Below w.heap.size w w7) := B6.out.trans (b7.mono B6.out.size)
  clear Ra6 Rb6 Rc6 B6
  clear b7
  have L8 : Hid (Below w7.heap.size w7 (w7.alloc (.cells #[.int .i64 1, .int .i64 3, .int .i64 5, .int .i64 7] 29))) := ((Below.refl w7.heap.size w7).alloc (Nat.le_refl _) _)
  have Qma : Hid (Row encP 2 (w7.alloc (.cells #[.int .i64 1, .int .i64 3, .int .i64 5, .int .i64 7] 29)) (.slice (some ⟨w7.heap.size, 0, none⟩) 2 2) [(1, 3), (5, 7)]) := row_block (cs := #[.int .i64 1, .int .i64 3, .int .i64 5, .int .i64 7]) (heap_alloc_new _ _) (by kernel_rfl) rfl
  go_wp2_with fail
  generalize (w7.alloc (.cells #[.int .i64 1, .int .i64 3, .int .i64 5, .int .i64 7] 29)) = w8 at L8 Qma ⊢
  have Ra8 : Hid (Row encP 2 w8 _ [(1, 3), (5, 7)]) := Ra7.out.below L8.out
  have Rb8 : Hid (Row encP 2 w8 _ [(1, 2), (5, 8)]) := Rb7.out.below L8.out
  have Rc8 : Hid (Row encP 2 w8 _ [(1, 1), (3, 3)]) := Rc7.out.below L8.out
  have B8 : Hid (Below w.heap.size w w8) := B7.out.trans (L8.out.mono B7.out.size)
  clear Ra7 Rb7 Rc7 B7
  clear L8
  have Rma8 : Hid (Row encP 2 w8 _ [(1, 3), (5, 7)]) := Qma
  clear Qma
  have C9 : Hid (Calls Try.prog 10 #[.slice aoa [(1, 3), (5, 7)].length ca, .slice (some ⟨w7.heap.size, 0, none⟩) 2 2] w8 fun e w' => e = .returned (.bool true) ∧ Below w8.heap.size w8 w') := same_ex _ _ [(1, 3), (5, 7)] w8 Ra8.out Rma8.out (by decide)
  refine Calls.mono C9.out ?_
  rintro e w9 ⟨rfl, b9⟩
  clear C9
  have Ra9 : Hid (Row encP 2 w9 _ [(1, 3), (5, 7)]) := Ra8.out.below b9
  have Rb9 : Hid (Row encP 2 w9 _ [(1, 2), (5, 8)]) := Rb8.out.below b9
  have Rc9 : Hid (Row encP 2 w9 _ [(1, 1), (3, 3)]) := Rc8.out.below b9
  have Rma9 : Hid (Row encP 2 w9 _ [(1, 3), (5, 7)]) := Rma8.out.below b9
  have B9 : Hid (Below w.heap.size w w9) := B8.out.trans (b9.mono B8.out.size)
  clear Ra8 Rb8 Rc8 Rma8 B8
  clear b9
  clear Rma9
  have L10 : Hid (Below w9.heap.size w9 (w9.alloc (.cells #[.int .i64 1, .int .i64 2, .int .i64 5, .int .i64 8] 29))) := ((Below.refl w9.heap.size w9).alloc (Nat.le_refl _) _)
  have Qmb : Hid (Row encP 2 (w9.alloc (.cells #[.int .i64 1, .int .i64 2, .int .i64 5, .int .i64 8] 29)) (.slice (some ⟨w9.heap.size, 0, none⟩) 2 2) [(1, 2), (5, 8)]) := row_block (cs := #[.int .i64 1, .int .i64 2, .int .i64 5, .int .i64 8]) (heap_alloc_new _ _) (by kernel_rfl) rfl
  go_wp2_with fail
  generalize (w9.alloc (.cells #[.int .i64 1, .int .i64 2, .int .i64 5, .int .i64 8] 29)) = w10 at L10 Qmb ⊢
  have Ra10 : Hid (Row encP 2 w10 _ [(1, 3), (5, 7)]) := Ra9.out.below L10.out
  have Rb10 : Hid (Row encP 2 w10 _ [(1, 2), (5, 8)]) := Rb9.out.below L10.out
  have Rc10 : Hid (Row encP 2 w10 _ [(1, 1), (3, 3)]) := Rc9.out.below L10.out
  have B10 : Hid (Below w.heap.size w w10) := B9.out.trans (L10.out.mono B9.out.size)
  clear Ra9 Rb9 Rc9 B9
  clear L10
  have Rmb10 : Hid (Row encP 2 w10 _ [(1, 2), (5, 8)]) := Qmb
  clear Qmb
  have C11 : Hid (Calls Try.prog 10 #[.slice aob [(1, 2), (5, 8)].length cb, .slice (some ⟨w9.heap.size, 0, none⟩) 2 2] w10 fun e w' => e = .returned (.bool true) ∧ Below w10.heap.size w10 w') := same_ex _ _ [(1, 2), (5, 8)] w10 Rb10.out Rmb10.out (by decide)
  refine Calls.mono C11.out ?_
  rintro e w11 ⟨rfl, b11⟩
  clear C11
  have Ra11 : Hid (Row encP 2 w11 _ [(1, 3), (5, 7)]) := Ra10.out.below b11
  have Rb11 : Hid (Row encP 2 w11 _ [(1, 2), (5, 8)]) := Rb10.out.below b11
  have Rc11 : Hid (Row encP 2 w11 _ [(1, 1), (3, 3)]) := Rc10.out.below b11
  have Rmb11 : Hid (Row encP 2 w11 _ [(1, 2), (5, 8)]) := Rmb10.out.below b11
  have B11 : Hid (Below w.heap.size w w11) := B10.out.trans (b11.mono B10.out.size)
  clear Ra10 Rb10 Rc10 Rmb10 B10
  clear b11
  clear Rmb11
  clear Rb11
  have L12 : Hid (Below w11.heap.size w11 (w11.alloc (.cells #[.int .i64 1, .int .i64 1, .int .i64 3, .int .i64 3] 29))) := ((Below.refl w11.heap.size w11).alloc (Nat.le_refl _) _)
  have Qmc : Hid (Row encP 2 (w11.alloc (.cells #[.int .i64 1, .int .i64 1, .int .i64 3, .int .i64 3] 29)) (.slice (some ⟨w11.heap.size, 0, none⟩) 2 2) [(1, 1), (3, 3)]) := row_block (cs := #[.int .i64 1, .int .i64 1, .int .i64 3, .int .i64 3]) (heap_alloc_new _ _) (by kernel_rfl) rfl
  go_wp2_with fail
  generalize (w11.alloc (.cells #[.int .i64 1, .int .i64 1, .int .i64 3, .int .i64 3] 29)) = w12 at L12 Qmc ⊢
  have Ra12 : Hid (Row encP 2 w12 _ [(1, 3), (5, 7)]) := Ra11.out.below L12.out
  have Rc12 : Hid (Row encP 2 w12 _ [(1, 1), (3, 3)]) := Rc11.out.below L12.out
  have B12 : Hid (Below w.heap.size w w12) := B11.out.trans (L12.out.mono B11.out.size)
  clear Ra11 Rc11 B11
  clear L12
  have Rmc12 : Hid (Row encP 2 w12 _ [(1, 1), (3, 3)]) := Qmc
  clear Qmc
  have C13 : Hid (Calls Try.prog 10 #[.slice aoc [(1, 1), (3, 3)].length cc, .slice (some ⟨w11.heap.size, 0, none⟩) 2 2] w12 fun e w' => e = .returned (.bool true) ∧ Below w12.heap.size w12 w') := same_ex _ _ [(1, 1), (3, 3)] w12 Rc12.out Rmc12.out (by decide)
  refine Calls.mono C13.out ?_
  rintro e w13 ⟨rfl, b13⟩
  clear C13
  have Ra13 : Hid (Row encP 2 w13 _ [(1, 3), (5, 7)]) := Ra12.out.below b13
  have Rc13 : Hid (Row encP 2 w13 _ [(1, 1), (3, 3)]) := Rc12.out.below b13
  have Rmc13 : Hid (Row encP 2 w13 _ [(1, 1), (3, 3)]) := Rmc12.out.below b13
  have B13 : Hid (Below w.heap.size w w13) := B12.out.trans (b13.mono B12.out.size)
  clear Ra12 Rc12 Rmc12 B12
  clear b13
  clear Rmc13
  clear Rc13
  have C14 : Hid (Calls Try.prog 22 #[.slice aoa [(1, 3), (5, 7)].length ca] w13 fun e w' => e = .returned (.int .i64 6) ∧ Below w13.heap.size w13 w') := count_ex _ w13 Ra13.out
  go_wp2_with fail
  refine Calls.mono C14.out ?_
  rintro e w14 ⟨rfl, b14⟩
  clear C14
  have Ra14 : Hid (Row encP 2 w14 _ [(1, 3), (5, 7)]) := Ra13.out.below b14
  have B14 : Hid (Below w.heap.size w w14) := B13.out.trans (b14.mono B13.out.size)
  clear Ra13 B13
  clear b14
  have C15 : Hid (Calls Try.prog 20 #[.slice aoa [(1, 3), (5, 7)].length ca, .int .i64 6] w14 fun e w' => e = .returned (.bool true) ∧ Below w14.heap.size w14 w') := has_ex6 _ w14 Ra14.out
  go_wp2_with fail
  refine Calls.mono C15.out ?_
  rintro e w15 ⟨rfl, b15⟩
  clear C15
  have Ra15 : Hid (Row encP 2 w15 _ [(1, 3), (5, 7)]) := Ra14.out.below b15
  have B15 : Hid (Below w.heap.size w w15) := B14.out.trans (b15.mono B14.out.size)
  clear Ra14 B14
  clear b15
  have C16 : Hid (Calls Try.prog 20 #[.slice aoa [(1, 3), (5, 7)].length ca, .int .i64 4] w15 fun e w' => e = .returned (.bool false) ∧ Below w15.heap.size w15 w') := has_ex4 _ w15 Ra15.out
  go_wp2_with fail
  refine Calls.mono C16.out ?_
  rintro e w16 ⟨rfl, b16⟩
  clear C16
  have Ra16 : Hid (Row encP 2 w16 _ [(1, 3), (5, 7)]) := Ra15.out.below b16
  have B16 : Hid (Below w.heap.size w w16) := B15.out.trans (b16.mono B15.out.size)
  clear Ra15 B15
  clear b16
  have C17 : Hid (Calls Try.prog 24 #[.slice aoa [(1, 3), (5, 7)].length ca, .int .i64 9] w16 fun e w' => (∃ ao c, e = .returned (.slice ao 6 c)) ∧ Below w16.heap.size w16 w') := list_ex _ w16 Ra16.out
  go_wp2_with fail
  refine Calls.mono C17.out ?_
  rintro e w17 ⟨⟨aol, cl, rfl⟩, b17⟩
  clear C17
  have Ra17 : Hid (Row encP 2 w17 _ [(1, 3), (5, 7)]) := Ra16.out.below b17
  have B17 : Hid (Below w.heap.size w w17) := B16.out.trans (b17.mono B16.out.size)
  clear Ra16 B16
  clear b17
  go_wp2
  go_ret
  exact ⟨rfl, B17.out⟩

end Go.Proofs.Ytoigljefajbofaa

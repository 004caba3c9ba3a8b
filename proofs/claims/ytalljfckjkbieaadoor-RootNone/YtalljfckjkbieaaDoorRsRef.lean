/-
  The walks of the document's answer for layer 7: rootstockref07's Encode, Decode and Pick.
-/
import Derived.Test.YtalljfckjkbieaaDoorRsDec
import Derived.Test.YtalljfckjkbieaaDoorPgRef
namespace Go.Proofs.YtalljfckjkbieaaDoor
open Go.RowKit

/-- The bytes that the document's Put answers, fit or not. -/
def qS (n : Int) : List UInt8 := if n < 0 then [] else beBytes 4 n.toNat
theorem qS_ok {n : Int} (h : putB 4 n = true) : qS n = beBytes 4 n.toNat := by
  have := (putB_four n).1 h
  rw [qS, if_neg (by omega)]
theorem qS_length (n : Int) : (qS n).length ≤ 4 := by
  unfold qS; split
  · simp
  · exact Nat.le_of_eq (beBytes_length _ _)
theorem qput_all (n : Int) (u : World) (hn : n ≤ 9223372036854775807) : Calls Tryd.prog 27 #[.int .i64 4, .int .i64 n] u fun r w' => r = .returned (.tuple #[.string ⟨(qS n).toArray⟩, .bool (putB 4 n)]) ∧ Below u.heap.size u w' := by
  by_cases h : n < 0
  · have e : putB 4 n = false := by
      rw [Bool.eq_false_iff]
      intro c
      have := (putB_four n).1 c
      omega
    rw [qS, if_pos h, e]
    exact (qput_neg n u h).mono fun _ _ h => ⟨h.1, h.2 ▸ Below.refl _ _⟩
  · obtain ⟨m, rfl⟩ := Int.eq_ofNat_of_zero_le (Int.not_lt.1 h)
    have := qput4 m u hn
    rw [qok_put] at this
    rw [qS, if_neg h]
    exact this

/-- Numbers that fit into an int. -/
def Rt.wf (r : Rt) : Prop := r.ep ≤ 9223372036854775807 ∧ r.pg ≤ 9223372036854775807 ∧ r.ct ≤ 9223372036854775807 ∧ r.fr ≤ 9223372036854775807 ∧ r.nx ≤ 9223372036854775807

set_option maxRecDepth 100000 in
set_option maxHeartbeats 2000000 in
theorem renc_zero (r : Rt) (hw : r.wf) (w : World) (hz : r.ep = 0) : Calls Tryd.prog 11 #[rtV r] w fun e w' => e = .returned (.tuple #[.string ⟨#[]⟩, .bool false]) ∧ Below w.heap.size w w' := by
  have hne : (r.ep != 0) = false := by rw [hz]; rfl
  have K0 : Hid (∀ u, Calls Tryd.prog 27 #[.int .i64 4, .int .i64 r.ep] u fun e w' => e = .returned (.tuple #[.string ⟨(qS r.ep).toArray⟩, .bool (putB 4 r.ep)]) ∧ Below u.heap.size u w') := fun u => by
    have := qput_all r.ep u hw.1
    skip
    exact this
  have K1 : Hid (∀ u, Calls Tryd.prog 27 #[.int .i64 4, .int .i64 r.pg] u fun e w' => e = .returned (.tuple #[.string ⟨(qS r.pg).toArray⟩, .bool (putB 4 r.pg)]) ∧ Below u.heap.size u w') := fun u => by
    have := qput_all r.pg u hw.2.1
    skip
    exact this
  have K2 : Hid (∀ u, Calls Tryd.prog 27 #[.int .i64 4, .int .i64 r.ct] u fun e w' => e = .returned (.tuple #[.string ⟨(qS r.ct).toArray⟩, .bool (putB 4 r.ct)]) ∧ Below u.heap.size u w') := fun u => by
    have := qput_all r.ct u hw.2.2.1
    skip
    exact this
  have K3 : Hid (∀ u, Calls Tryd.prog 27 #[.int .i64 4, .int .i64 r.fr] u fun e w' => e = .returned (.tuple #[.string ⟨(qS r.fr).toArray⟩, .bool (putB 4 r.fr)]) ∧ Below u.heap.size u w') := fun u => by
    have := qput_all r.fr u hw.2.2.2.1
    skip
    exact this
  have K4 : Hid (∀ u, Calls Tryd.prog 27 #[.int .i64 4, .int .i64 r.nx] u fun e w' => e = .returned (.tuple #[.string ⟨(qS r.nx).toArray⟩, .bool (putB 4 r.nx)]) ∧ Below u.heap.size u w') := fun u => by
    have := qput_all r.nx u hw.2.2.2.2
    skip
    exact this
  have L0 : (qS r.ep).length ≤ 4 := qS_length _
  have L1 : (qS r.pg).length ≤ 4 := qS_length _
  have L2 : (qS r.ct).length ≤ 4 := qS_length _
  have L3 : (qS r.fr).length ≤ 4 := qS_length _
  have L4 : (qS r.nx).length ≤ 4 := qS_length _
  generalize qS r.ep = X0 at *
  generalize qS r.pg = X1 at *
  generalize qS r.ct = X2 at *
  generalize qS r.fr = X3 at *
  generalize qS r.nx = X4 at *
  generalize putB 4 r.ep = g0 at *
  generalize putB 4 r.pg = g1 at *
  generalize putB 4 r.ct = g2 at *
  generalize putB 4 r.fr = g3 at *
  generalize putB 4 r.nx = g4 at *
  clear hz hw
  unfold rtV at *
  obtain ⟨n0, n1, n2, n3, n4⟩ := r
  dsimp only at *
  go_enter Tryd.func11, Tryd.ntmps11
  go_wp2_with fail
  have N4 : Hid (Cl ((w.alloc (.cells #[.int .i64 n0, .int .i64 n1, .int .i64 n2, .int .i64 n3, .int .i64 n4] 23)).alloc (.cells #[.int .i64 n0, .int .i64 n1, .int .i64 n2, .int .i64 n3, .int .i64 n4] 3)) w.heap.size #[.int .i64 n0, .int .i64 n1, .int .i64 n2, .int .i64 n3, .int .i64 n4] 23) := Cl.alloc (Cl.new _ _ _) _
  have N5 : Hid (Cl ((w.alloc (.cells #[.int .i64 n0, .int .i64 n1, .int .i64 n2, .int .i64 n3, .int .i64 n4] 23)).alloc (.cells #[.int .i64 n0, .int .i64 n1, .int .i64 n2, .int .i64 n3, .int .i64 n4] 3)) (w.heap.size + 1) #[.int .i64 n0, .int .i64 n1, .int .i64 n2, .int .i64 n3, .int .i64 n4] 3) := by
    have := Cl.new (w.alloc (.cells #[.int .i64 n0, .int .i64 n1, .int .i64 n2, .int .i64 n3, .int .i64 n4] 23)) #[.int .i64 n0, .int .i64 n1, .int .i64 n2, .int .i64 n3, .int .i64 n4] 3
    rw [show (w.alloc (.cells #[.int .i64 n0, .int .i64 n1, .int .i64 n2, .int .i64 n3, .int .i64 n4] 23)).heap.size = w.heap.size + 1 by simp] at this
    exact this
  have B3 : Hid (Below w.heap.size w ((w.alloc (.cells #[.int .i64 n0, .int .i64 n1, .int .i64 n2, .int .i64 n3, .int .i64 n4] 23)).alloc (.cells #[.int .i64 n0, .int .i64 n1, .int .i64 n2, .int .i64 n3, .int .i64 n4] 3))) := ((Below.refl _ _).alloc (Nat.le_refl _) _).alloc (by simp) _
  have L6 : Hid (w.heap.size ≤ w.heap.size) := Nat.le_refl _
  have L7 : Hid (w.heap.size ≤ w.heap.size + 1) := Nat.le_succ _
  generalize (w.alloc (.cells #[.int .i64 n0, .int .i64 n1, .int .i64 n2, .int .i64 n3, .int .i64 n4] 23)).alloc (.cells #[.int .i64 n0, .int .i64 n1, .int .i64 n2, .int .i64 n3, .int .i64 n4] 3) = v1 at *
  generalize w.heap.size + 1 = q2 at *
  refine wp_loop_rounds 6 ?_
  rw [rounds_succ]
  obtain ⟨c8_0, c8_1, c8_2, c8_3, c8_4⟩ := N5.out.five
  go_wp2_with fail
  clear c8_0 c8_1 c8_2 c8_3 c8_4
  refine Calls.mono (K0.out _) ?_
  rintro e v9 ⟨rfl, b10⟩
  have N12 : Hid (Cl v9 w.heap.size #[.int .i64 n0, .int .i64 n1, .int .i64 n2, .int .i64 n3, .int .i64 n4] 23) := Cl.on N4.out b10
  have N13 : Hid (Cl v9 q2 #[.int .i64 n0, .int .i64 n1, .int .i64 n2, .int .i64 n3, .int .i64 n4] 3) := Cl.on N5.out b10
  have B11 : Hid (Below w.heap.size w v9) := B3.out.trans (b10.mono B3.out.size)
  clear b10 N4 N5 B3
  go_wp2_with fail
  rw [rounds_succ]
  obtain ⟨c14_0, c14_1, c14_2, c14_3, c14_4⟩ := N13.out.five
  go_wp2_with fail
  clear c14_0 c14_1 c14_2 c14_3 c14_4
  refine Calls.mono (K1.out _) ?_
  rintro e v15 ⟨rfl, b16⟩
  have N18 : Hid (Cl v15 w.heap.size #[.int .i64 n0, .int .i64 n1, .int .i64 n2, .int .i64 n3, .int .i64 n4] 23) := Cl.on N12.out b16
  have N19 : Hid (Cl v15 q2 #[.int .i64 n0, .int .i64 n1, .int .i64 n2, .int .i64 n3, .int .i64 n4] 3) := Cl.on N13.out b16
  have B17 : Hid (Below w.heap.size w v15) := B11.out.trans (b16.mono B11.out.size)
  clear b16 N12 N13 B11
  clear K1
  go_wp2_with fail
  rw [rounds_succ]
  obtain ⟨c20_0, c20_1, c20_2, c20_3, c20_4⟩ := N19.out.five
  go_wp2_with fail
  clear c20_0 c20_1 c20_2 c20_3 c20_4
  refine Calls.mono (K2.out _) ?_
  rintro e v21 ⟨rfl, b22⟩
  have N24 : Hid (Cl v21 w.heap.size #[.int .i64 n0, .int .i64 n1, .int .i64 n2, .int .i64 n3, .int .i64 n4] 23) := Cl.on N18.out b22
  have N25 : Hid (Cl v21 q2 #[.int .i64 n0, .int .i64 n1, .int .i64 n2, .int .i64 n3, .int .i64 n4] 3) := Cl.on N19.out b22
  have B23 : Hid (Below w.heap.size w v21) := B17.out.trans (b22.mono B17.out.size)
  clear b22 N18 N19 B17
  clear K2
  go_wp2_with fail
  rw [rounds_succ]
  obtain ⟨c26_0, c26_1, c26_2, c26_3, c26_4⟩ := N25.out.five
  go_wp2_with fail
  clear c26_0 c26_1 c26_2 c26_3 c26_4
  refine Calls.mono (K3.out _) ?_
  rintro e v27 ⟨rfl, b28⟩
  have N30 : Hid (Cl v27 w.heap.size #[.int .i64 n0, .int .i64 n1, .int .i64 n2, .int .i64 n3, .int .i64 n4] 23) := Cl.on N24.out b28
  have N31 : Hid (Cl v27 q2 #[.int .i64 n0, .int .i64 n1, .int .i64 n2, .int .i64 n3, .int .i64 n4] 3) := Cl.on N25.out b28
  have B29 : Hid (Below w.heap.size w v27) := B23.out.trans (b28.mono B23.out.size)
  clear b28 N24 N25 B23
  clear K3
  go_wp2_with fail
  rw [rounds_succ]
  obtain ⟨c32_0, c32_1, c32_2, c32_3, c32_4⟩ := N31.out.five
  go_wp2_with fail
  clear c32_0 c32_1 c32_2 c32_3 c32_4
  refine Calls.mono (K4.out _) ?_
  rintro e v33 ⟨rfl, b34⟩
  have N36 : Hid (Cl v33 w.heap.size #[.int .i64 n0, .int .i64 n1, .int .i64 n2, .int .i64 n3, .int .i64 n4] 23) := Cl.on N30.out b34
  have N37 : Hid (Cl v33 q2 #[.int .i64 n0, .int .i64 n1, .int .i64 n2, .int .i64 n3, .int .i64 n4] 3) := Cl.on N31.out b34
  have B35 : Hid (Below w.heap.size w v33) := B29.out.trans (b34.mono B29.out.size)
  clear b34 N30 N31 B29
  clear K4
  go_wp2_with fail
  rw [rounds_succ]
  go_wp2
  go_ret2
  exact ⟨rfl, B35.out⟩

set_option maxRecDepth 100000 in
set_option maxHeartbeats 2000000 in
theorem renc_no0 (r : Rt) (hw : r.wf) (w : World) (hz : r.ep ≠ 0)  (h0 : putB 4 r.ep = false) : Calls Tryd.prog 11 #[rtV r] w fun e w' => e = .returned (.tuple #[.string ⟨#[]⟩, .bool false]) ∧ Below w.heap.size w w' := by
  have hne : (r.ep != 0) = true := bne_iff_ne.2 hz
  have K0 : Hid (∀ u, Calls Tryd.prog 27 #[.int .i64 4, .int .i64 r.ep] u fun e w' => e = .returned (.tuple #[.string ⟨(qS r.ep).toArray⟩, .bool false]) ∧ Below u.heap.size u w') := fun u => by
    have := qput_all r.ep u hw.1
    rw [h0] at this
    exact this
  have K1 : Hid (∀ u, Calls Tryd.prog 27 #[.int .i64 4, .int .i64 r.pg] u fun e w' => e = .returned (.tuple #[.string ⟨(qS r.pg).toArray⟩, .bool (putB 4 r.pg)]) ∧ Below u.heap.size u w') := fun u => by
    have := qput_all r.pg u hw.2.1
    skip
    exact this
  have K2 : Hid (∀ u, Calls Tryd.prog 27 #[.int .i64 4, .int .i64 r.ct] u fun e w' => e = .returned (.tuple #[.string ⟨(qS r.ct).toArray⟩, .bool (putB 4 r.ct)]) ∧ Below u.heap.size u w') := fun u => by
    have := qput_all r.ct u hw.2.2.1
    skip
    exact this
  have K3 : Hid (∀ u, Calls Tryd.prog 27 #[.int .i64 4, .int .i64 r.fr] u fun e w' => e = .returned (.tuple #[.string ⟨(qS r.fr).toArray⟩, .bool (putB 4 r.fr)]) ∧ Below u.heap.size u w') := fun u => by
    have := qput_all r.fr u hw.2.2.2.1
    skip
    exact this
  have K4 : Hid (∀ u, Calls Tryd.prog 27 #[.int .i64 4, .int .i64 r.nx] u fun e w' => e = .returned (.tuple #[.string ⟨(qS r.nx).toArray⟩, .bool (putB 4 r.nx)]) ∧ Below u.heap.size u w') := fun u => by
    have := qput_all r.nx u hw.2.2.2.2
    skip
    exact this
  have L0 : (qS r.ep).length ≤ 4 := qS_length _
  have L1 : (qS r.pg).length ≤ 4 := qS_length _
  have L2 : (qS r.ct).length ≤ 4 := qS_length _
  have L3 : (qS r.fr).length ≤ 4 := qS_length _
  have L4 : (qS r.nx).length ≤ 4 := qS_length _
  generalize qS r.ep = X0 at *
  generalize qS r.pg = X1 at *
  generalize qS r.ct = X2 at *
  generalize qS r.fr = X3 at *
  generalize qS r.nx = X4 at *
  generalize putB 4 r.pg = g1 at *
  generalize putB 4 r.ct = g2 at *
  generalize putB 4 r.fr = g3 at *
  generalize putB 4 r.nx = g4 at *
  clear hz hw h0
  unfold rtV at *
  obtain ⟨n0, n1, n2, n3, n4⟩ := r
  dsimp only at *
  go_enter Tryd.func11, Tryd.ntmps11
  go_wp2_with fail
  have N4 : Hid (Cl ((w.alloc (.cells #[.int .i64 n0, .int .i64 n1, .int .i64 n2, .int .i64 n3, .int .i64 n4] 23)).alloc (.cells #[.int .i64 n0, .int .i64 n1, .int .i64 n2, .int .i64 n3, .int .i64 n4] 3)) w.heap.size #[.int .i64 n0, .int .i64 n1, .int .i64 n2, .int .i64 n3, .int .i64 n4] 23) := Cl.alloc (Cl.new _ _ _) _
  have N5 : Hid (Cl ((w.alloc (.cells #[.int .i64 n0, .int .i64 n1, .int .i64 n2, .int .i64 n3, .int .i64 n4] 23)).alloc (.cells #[.int .i64 n0, .int .i64 n1, .int .i64 n2, .int .i64 n3, .int .i64 n4] 3)) (w.heap.size + 1) #[.int .i64 n0, .int .i64 n1, .int .i64 n2, .int .i64 n3, .int .i64 n4] 3) := by
    have := Cl.new (w.alloc (.cells #[.int .i64 n0, .int .i64 n1, .int .i64 n2, .int .i64 n3, .int .i64 n4] 23)) #[.int .i64 n0, .int .i64 n1, .int .i64 n2, .int .i64 n3, .int .i64 n4] 3
    rw [show (w.alloc (.cells #[.int .i64 n0, .int .i64 n1, .int .i64 n2, .int .i64 n3, .int .i64 n4] 23)).heap.size = w.heap.size + 1 by simp] at this
    exact this
  have B3 : Hid (Below w.heap.size w ((w.alloc (.cells #[.int .i64 n0, .int .i64 n1, .int .i64 n2, .int .i64 n3, .int .i64 n4] 23)).alloc (.cells #[.int .i64 n0, .int .i64 n1, .int .i64 n2, .int .i64 n3, .int .i64 n4] 3))) := ((Below.refl _ _).alloc (Nat.le_refl _) _).alloc (by simp) _
  have L6 : Hid (w.heap.size ≤ w.heap.size) := Nat.le_refl _
  have L7 : Hid (w.heap.size ≤ w.heap.size + 1) := Nat.le_succ _
  generalize (w.alloc (.cells #[.int .i64 n0, .int .i64 n1, .int .i64 n2, .int .i64 n3, .int .i64 n4] 23)).alloc (.cells #[.int .i64 n0, .int .i64 n1, .int .i64 n2, .int .i64 n3, .int .i64 n4] 3) = v1 at *
  generalize w.heap.size + 1 = q2 at *
  refine wp_loop_rounds 6 ?_
  rw [rounds_succ]
  obtain ⟨c8_0, c8_1, c8_2, c8_3, c8_4⟩ := N5.out.five
  go_wp2_with fail
  clear c8_0 c8_1 c8_2 c8_3 c8_4
  refine Calls.mono (K0.out _) ?_
  rintro e v9 ⟨rfl, b10⟩
  have N12 : Hid (Cl v9 w.heap.size #[.int .i64 n0, .int .i64 n1, .int .i64 n2, .int .i64 n3, .int .i64 n4] 23) := Cl.on N4.out b10
  have N13 : Hid (Cl v9 q2 #[.int .i64 n0, .int .i64 n1, .int .i64 n2, .int .i64 n3, .int .i64 n4] 3) := Cl.on N5.out b10
  have B11 : Hid (Below w.heap.size w v9) := B3.out.trans (b10.mono B3.out.size)
  clear b10 N4 N5 B3
  go_wp2_with fail
  rw [rounds_succ]
  obtain ⟨c14_0, c14_1, c14_2, c14_3, c14_4⟩ := N13.out.five
  go_wp2_with fail
  clear c14_0 c14_1 c14_2 c14_3 c14_4
  refine Calls.mono (K1.out _) ?_
  rintro e v15 ⟨rfl, b16⟩
  have N18 : Hid (Cl v15 w.heap.size #[.int .i64 n0, .int .i64 n1, .int .i64 n2, .int .i64 n3, .int .i64 n4] 23) := Cl.on N12.out b16
  have N19 : Hid (Cl v15 q2 #[.int .i64 n0, .int .i64 n1, .int .i64 n2, .int .i64 n3, .int .i64 n4] 3) := Cl.on N13.out b16
  have B17 : Hid (Below w.heap.size w v15) := B11.out.trans (b16.mono B11.out.size)
  clear b16 N12 N13 B11
  clear K1
  go_wp2_with fail
  rw [rounds_succ]
  obtain ⟨c20_0, c20_1, c20_2, c20_3, c20_4⟩ := N19.out.five
  go_wp2_with fail
  clear c20_0 c20_1 c20_2 c20_3 c20_4
  refine Calls.mono (K2.out _) ?_
  rintro e v21 ⟨rfl, b22⟩
  have N24 : Hid (Cl v21 w.heap.size #[.int .i64 n0, .int .i64 n1, .int .i64 n2, .int .i64 n3, .int .i64 n4] 23) := Cl.on N18.out b22
  have N25 : Hid (Cl v21 q2 #[.int .i64 n0, .int .i64 n1, .int .i64 n2, .int .i64 n3, .int .i64 n4] 3) := Cl.on N19.out b22
  have B23 : Hid (Below w.heap.size w v21) := B17.out.trans (b22.mono B17.out.size)
  clear b22 N18 N19 B17
  clear K2
  go_wp2_with fail
  rw [rounds_succ]
  obtain ⟨c26_0, c26_1, c26_2, c26_3, c26_4⟩ := N25.out.five
  go_wp2_with fail
  clear c26_0 c26_1 c26_2 c26_3 c26_4
  refine Calls.mono (K3.out _) ?_
  rintro e v27 ⟨rfl, b28⟩
  have N30 : Hid (Cl v27 w.heap.size #[.int .i64 n0, .int .i64 n1, .int .i64 n2, .int .i64 n3, .int .i64 n4] 23) := Cl.on N24.out b28
  have N31 : Hid (Cl v27 q2 #[.int .i64 n0, .int .i64 n1, .int .i64 n2, .int .i64 n3, .int .i64 n4] 3) := Cl.on N25.out b28
  have B29 : Hid (Below w.heap.size w v27) := B23.out.trans (b28.mono B23.out.size)
  clear b28 N24 N25 B23
  clear K3
  go_wp2_with fail
  rw [rounds_succ]
  obtain ⟨c32_0, c32_1, c32_2, c32_3, c32_4⟩ := N31.out.five
  go_wp2_with fail
  clear c32_0 c32_1 c32_2 c32_3 c32_4
  refine Calls.mono (K4.out _) ?_
  rintro e v33 ⟨rfl, b34⟩
  have N36 : Hid (Cl v33 w.heap.size #[.int .i64 n0, .int .i64 n1, .int .i64 n2, .int .i64 n3, .int .i64 n4] 23) := Cl.on N30.out b34
  have N37 : Hid (Cl v33 q2 #[.int .i64 n0, .int .i64 n1, .int .i64 n2, .int .i64 n3, .int .i64 n4] 3) := Cl.on N31.out b34
  have B35 : Hid (Below w.heap.size w v33) := B29.out.trans (b34.mono B29.out.size)
  clear b34 N30 N31 B29
  clear K4
  go_wp2_with fail
  rw [rounds_succ]
  go_wp2
  go_ret2
  exact ⟨rfl, B35.out⟩

set_option maxRecDepth 100000 in
set_option maxHeartbeats 2000000 in
theorem renc_no1 (r : Rt) (hw : r.wf) (w : World) (hz : r.ep ≠ 0) (h0 : putB 4 r.ep = true) (h1 : putB 4 r.pg = false) : Calls Tryd.prog 11 #[rtV r] w fun e w' => e = .returned (.tuple #[.string ⟨#[]⟩, .bool false]) ∧ Below w.heap.size w w' := by
  have hne : (r.ep != 0) = true := bne_iff_ne.2 hz
  have K0 : Hid (∀ u, Calls Tryd.prog 27 #[.int .i64 4, .int .i64 r.ep] u fun e w' => e = .returned (.tuple #[.string ⟨(qS r.ep).toArray⟩, .bool true]) ∧ Below u.heap.size u w') := fun u => by
    have := qput_all r.ep u hw.1
    rw [h0] at this
    exact this
  have K1 : Hid (∀ u, Calls Tryd.prog 27 #[.int .i64 4, .int .i64 r.pg] u fun e w' => e = .returned (.tuple #[.string ⟨(qS r.pg).toArray⟩, .bool false]) ∧ Below u.heap.size u w') := fun u => by
    have := qput_all r.pg u hw.2.1
    rw [h1] at this
    exact this
  have K2 : Hid (∀ u, Calls Tryd.prog 27 #[.int .i64 4, .int .i64 r.ct] u fun e w' => e = .returned (.tuple #[.string ⟨(qS r.ct).toArray⟩, .bool (putB 4 r.ct)]) ∧ Below u.heap.size u w') := fun u => by
    have := qput_all r.ct u hw.2.2.1
    skip
    exact this
  have K3 : Hid (∀ u, Calls Tryd.prog 27 #[.int .i64 4, .int .i64 r.fr] u fun e w' => e = .returned (.tuple #[.string ⟨(qS r.fr).toArray⟩, .bool (putB 4 r.fr)]) ∧ Below u.heap.size u w') := fun u => by
    have := qput_all r.fr u hw.2.2.2.1
    skip
    exact this
  have K4 : Hid (∀ u, Calls Tryd.prog 27 #[.int .i64 4, .int .i64 r.nx] u fun e w' => e = .returned (.tuple #[.string ⟨(qS r.nx).toArray⟩, .bool (putB 4 r.nx)]) ∧ Below u.heap.size u w') := fun u => by
    have := qput_all r.nx u hw.2.2.2.2
    skip
    exact this
  have L0 : (qS r.ep).length ≤ 4 := qS_length _
  have L1 : (qS r.pg).length ≤ 4 := qS_length _
  have L2 : (qS r.ct).length ≤ 4 := qS_length _
  have L3 : (qS r.fr).length ≤ 4 := qS_length _
  have L4 : (qS r.nx).length ≤ 4 := qS_length _
  generalize qS r.ep = X0 at *
  generalize qS r.pg = X1 at *
  generalize qS r.ct = X2 at *
  generalize qS r.fr = X3 at *
  generalize qS r.nx = X4 at *
  generalize putB 4 r.ct = g2 at *
  generalize putB 4 r.fr = g3 at *
  generalize putB 4 r.nx = g4 at *
  clear hz hw h0 h1
  unfold rtV at *
  obtain ⟨n0, n1, n2, n3, n4⟩ := r
  dsimp only at *
  go_enter Tryd.func11, Tryd.ntmps11
  go_wp2_with fail
  have N4 : Hid (Cl ((w.alloc (.cells #[.int .i64 n0, .int .i64 n1, .int .i64 n2, .int .i64 n3, .int .i64 n4] 23)).alloc (.cells #[.int .i64 n0, .int .i64 n1, .int .i64 n2, .int .i64 n3, .int .i64 n4] 3)) w.heap.size #[.int .i64 n0, .int .i64 n1, .int .i64 n2, .int .i64 n3, .int .i64 n4] 23) := Cl.alloc (Cl.new _ _ _) _
  have N5 : Hid (Cl ((w.alloc (.cells #[.int .i64 n0, .int .i64 n1, .int .i64 n2, .int .i64 n3, .int .i64 n4] 23)).alloc (.cells #[.int .i64 n0, .int .i64 n1, .int .i64 n2, .int .i64 n3, .int .i64 n4] 3)) (w.heap.size + 1) #[.int .i64 n0, .int .i64 n1, .int .i64 n2, .int .i64 n3, .int .i64 n4] 3) := by
    have := Cl.new (w.alloc (.cells #[.int .i64 n0, .int .i64 n1, .int .i64 n2, .int .i64 n3, .int .i64 n4] 23)) #[.int .i64 n0, .int .i64 n1, .int .i64 n2, .int .i64 n3, .int .i64 n4] 3
    rw [show (w.alloc (.cells #[.int .i64 n0, .int .i64 n1, .int .i64 n2, .int .i64 n3, .int .i64 n4] 23)).heap.size = w.heap.size + 1 by simp] at this
    exact this
  have B3 : Hid (Below w.heap.size w ((w.alloc (.cells #[.int .i64 n0, .int .i64 n1, .int .i64 n2, .int .i64 n3, .int .i64 n4] 23)).alloc (.cells #[.int .i64 n0, .int .i64 n1, .int .i64 n2, .int .i64 n3, .int .i64 n4] 3))) := ((Below.refl _ _).alloc (Nat.le_refl _) _).alloc (by simp) _
  have L6 : Hid (w.heap.size ≤ w.heap.size) := Nat.le_refl _
  have L7 : Hid (w.heap.size ≤ w.heap.size + 1) := Nat.le_succ _
  generalize (w.alloc (.cells #[.int .i64 n0, .int .i64 n1, .int .i64 n2, .int .i64 n3, .int .i64 n4] 23)).alloc (.cells #[.int .i64 n0, .int .i64 n1, .int .i64 n2, .int .i64 n3, .int .i64 n4] 3) = v1 at *
  generalize w.heap.size + 1 = q2 at *
  refine wp_loop_rounds 6 ?_
  rw [rounds_succ]
  obtain ⟨c8_0, c8_1, c8_2, c8_3, c8_4⟩ := N5.out.five
  go_wp2_with fail
  clear c8_0 c8_1 c8_2 c8_3 c8_4
  refine Calls.mono (K0.out _) ?_
  rintro e v9 ⟨rfl, b10⟩
  have N12 : Hid (Cl v9 w.heap.size #[.int .i64 n0, .int .i64 n1, .int .i64 n2, .int .i64 n3, .int .i64 n4] 23) := Cl.on N4.out b10
  have N13 : Hid (Cl v9 q2 #[.int .i64 n0, .int .i64 n1, .int .i64 n2, .int .i64 n3, .int .i64 n4] 3) := Cl.on N5.out b10
  have B11 : Hid (Below w.heap.size w v9) := B3.out.trans (b10.mono B3.out.size)
  clear b10 N4 N5 B3
  go_wp2_with fail
  rw [rounds_succ]
  obtain ⟨c14_0, c14_1, c14_2, c14_3, c14_4⟩ := N13.out.five
  go_wp2_with fail
  clear c14_0 c14_1 c14_2 c14_3 c14_4
  refine Calls.mono (K1.out _) ?_
  rintro e v15 ⟨rfl, b16⟩
  have N18 : Hid (Cl v15 w.heap.size #[.int .i64 n0, .int .i64 n1, .int .i64 n2, .int .i64 n3, .int .i64 n4] 23) := Cl.on N12.out b16
  have N19 : Hid (Cl v15 q2 #[.int .i64 n0, .int .i64 n1, .int .i64 n2, .int .i64 n3, .int .i64 n4] 3) := Cl.on N13.out b16
  have B17 : Hid (Below w.heap.size w v15) := B11.out.trans (b16.mono B11.out.size)
  clear b16 N12 N13 B11
  clear K1
  go_wp2_with fail
  rw [rounds_succ]
  obtain ⟨c20_0, c20_1, c20_2, c20_3, c20_4⟩ := N19.out.five
  go_wp2_with fail
  clear c20_0 c20_1 c20_2 c20_3 c20_4
  refine Calls.mono (K2.out _) ?_
  rintro e v21 ⟨rfl, b22⟩
  have N24 : Hid (Cl v21 w.heap.size #[.int .i64 n0, .int .i64 n1, .int .i64 n2, .int .i64 n3, .int .i64 n4] 23) := Cl.on N18.out b22
  have N25 : Hid (Cl v21 q2 #[.int .i64 n0, .int .i64 n1, .int .i64 n2, .int .i64 n3, .int .i64 n4] 3) := Cl.on N19.out b22
  have B23 : Hid (Below w.heap.size w v21) := B17.out.trans (b22.mono B17.out.size)
  clear b22 N18 N19 B17
  clear K2
  go_wp2_with fail
  rw [rounds_succ]
  obtain ⟨c26_0, c26_1, c26_2, c26_3, c26_4⟩ := N25.out.five
  go_wp2_with fail
  clear c26_0 c26_1 c26_2 c26_3 c26_4
  refine Calls.mono (K3.out _) ?_
  rintro e v27 ⟨rfl, b28⟩
  have N30 : Hid (Cl v27 w.heap.size #[.int .i64 n0, .int .i64 n1, .int .i64 n2, .int .i64 n3, .int .i64 n4] 23) := Cl.on N24.out b28
  have N31 : Hid (Cl v27 q2 #[.int .i64 n0, .int .i64 n1, .int .i64 n2, .int .i64 n3, .int .i64 n4] 3) := Cl.on N25.out b28
  have B29 : Hid (Below w.heap.size w v27) := B23.out.trans (b28.mono B23.out.size)
  clear b28 N24 N25 B23
  clear K3
  go_wp2_with fail
  rw [rounds_succ]
  obtain ⟨c32_0, c32_1, c32_2, c32_3, c32_4⟩ := N31.out.five
  go_wp2_with fail
  clear c32_0 c32_1 c32_2 c32_3 c32_4
  refine Calls.mono (K4.out _) ?_
  rintro e v33 ⟨rfl, b34⟩
  have N36 : Hid (Cl v33 w.heap.size #[.int .i64 n0, .int .i64 n1, .int .i64 n2, .int .i64 n3, .int .i64 n4] 23) := Cl.on N30.out b34
  have N37 : Hid (Cl v33 q2 #[.int .i64 n0, .int .i64 n1, .int .i64 n2, .int .i64 n3, .int .i64 n4] 3) := Cl.on N31.out b34
  have B35 : Hid (Below w.heap.size w v33) := B29.out.trans (b34.mono B29.out.size)
  clear b34 N30 N31 B29
  clear K4
  go_wp2_with fail
  rw [rounds_succ]
  go_wp2
  go_ret2
  exact ⟨rfl, B35.out⟩

set_option maxRecDepth 100000 in
set_option maxHeartbeats 2000000 in
theorem renc_no2 (r : Rt) (hw : r.wf) (w : World) (hz : r.ep ≠ 0) (h0 : putB 4 r.ep = true) (h1 : putB 4 r.pg = true) (h2 : putB 4 r.ct = false) : Calls Tryd.prog 11 #[rtV r] w fun e w' => e = .returned (.tuple #[.string ⟨#[]⟩, .bool false]) ∧ Below w.heap.size w w' := by
  have hne : (r.ep != 0) = true := bne_iff_ne.2 hz
  have K0 : Hid (∀ u, Calls Tryd.prog 27 #[.int .i64 4, .int .i64 r.ep] u fun e w' => e = .returned (.tuple #[.string ⟨(qS r.ep).toArray⟩, .bool true]) ∧ Below u.heap.size u w') := fun u => by
    have := qput_all r.ep u hw.1
    rw [h0] at this
    exact this
  have K1 : Hid (∀ u, Calls Tryd.prog 27 #[.int .i64 4, .int .i64 r.pg] u fun e w' => e = .returned (.tuple #[.string ⟨(qS r.pg).toArray⟩, .bool true]) ∧ Below u.heap.size u w') := fun u => by
    have := qput_all r.pg u hw.2.1
    rw [h1] at this
    exact this
  have K2 : Hid (∀ u, Calls Tryd.prog 27 #[.int .i64 4, .int .i64 r.ct] u fun e w' => e = .returned (.tuple #[.string ⟨(qS r.ct).toArray⟩, .bool false]) ∧ Below u.heap.size u w') := fun u => by
    have := qput_all r.ct u hw.2.2.1
    rw [h2] at this
    exact this
  have K3 : Hid (∀ u, Calls Tryd.prog 27 #[.int .i64 4, .int .i64 r.fr] u fun e w' => e = .returned (.tuple #[.string ⟨(qS r.fr).toArray⟩, .bool (putB 4 r.fr)]) ∧ Below u.heap.size u w') := fun u => by
    have := qput_all r.fr u hw.2.2.2.1
    skip
    exact this
  have K4 : Hid (∀ u, Calls Tryd.prog 27 #[.int .i64 4, .int .i64 r.nx] u fun e w' => e = .returned (.tuple #[.string ⟨(qS r.nx).toArray⟩, .bool (putB 4 r.nx)]) ∧ Below u.heap.size u w') := fun u => by
    have := qput_all r.nx u hw.2.2.2.2
    skip
    exact this
  have L0 : (qS r.ep).length ≤ 4 := qS_length _
  have L1 : (qS r.pg).length ≤ 4 := qS_length _
  have L2 : (qS r.ct).length ≤ 4 := qS_length _
  have L3 : (qS r.fr).length ≤ 4 := qS_length _
  have L4 : (qS r.nx).length ≤ 4 := qS_length _
  generalize qS r.ep = X0 at *
  generalize qS r.pg = X1 at *
  generalize qS r.ct = X2 at *
  generalize qS r.fr = X3 at *
  generalize qS r.nx = X4 at *
  generalize putB 4 r.fr = g3 at *
  generalize putB 4 r.nx = g4 at *
  clear hz hw h0 h1 h2
  unfold rtV at *
  obtain ⟨n0, n1, n2, n3, n4⟩ := r
  dsimp only at *
  go_enter Tryd.func11, Tryd.ntmps11
  go_wp2_with fail
  have N4 : Hid (Cl ((w.alloc (.cells #[.int .i64 n0, .int .i64 n1, .int .i64 n2, .int .i64 n3, .int .i64 n4] 23)).alloc (.cells #[.int .i64 n0, .int .i64 n1, .int .i64 n2, .int .i64 n3, .int .i64 n4] 3)) w.heap.size #[.int .i64 n0, .int .i64 n1, .int .i64 n2, .int .i64 n3, .int .i64 n4] 23) := Cl.alloc (Cl.new _ _ _) _
  have N5 : Hid (Cl ((w.alloc (.cells #[.int .i64 n0, .int .i64 n1, .int .i64 n2, .int .i64 n3, .int .i64 n4] 23)).alloc (.cells #[.int .i64 n0, .int .i64 n1, .int .i64 n2, .int .i64 n3, .int .i64 n4] 3)) (w.heap.size + 1) #[.int .i64 n0, .int .i64 n1, .int .i64 n2, .int .i64 n3, .int .i64 n4] 3) := by
    have := Cl.new (w.alloc (.cells #[.int .i64 n0, .int .i64 n1, .int .i64 n2, .int .i64 n3, .int .i64 n4] 23)) #[.int .i64 n0, .int .i64 n1, .int .i64 n2, .int .i64 n3, .int .i64 n4] 3
    rw [show (w.alloc (.cells #[.int .i64 n0, .int .i64 n1, .int .i64 n2, .int .i64 n3, .int .i64 n4] 23)).heap.size = w.heap.size + 1 by simp] at this
    exact this
  have B3 : Hid (Below w.heap.size w ((w.alloc (.cells #[.int .i64 n0, .int .i64 n1, .int .i64 n2, .int .i64 n3, .int .i64 n4] 23)).alloc (.cells #[.int .i64 n0, .int .i64 n1, .int .i64 n2, .int .i64 n3, .int .i64 n4] 3))) := ((Below.refl _ _).alloc (Nat.le_refl _) _).alloc (by simp) _
  have L6 : Hid (w.heap.size ≤ w.heap.size) := Nat.le_refl _
  have L7 : Hid (w.heap.size ≤ w.heap.size + 1) := Nat.le_succ _
  generalize (w.alloc (.cells #[.int .i64 n0, .int .i64 n1, .int .i64 n2, .int .i64 n3, .int .i64 n4] 23)).alloc (.cells #[.int .i64 n0, .int .i64 n1, .int .i64 n2, .int .i64 n3, .int .i64 n4] 3) = v1 at *
  generalize w.heap.size + 1 = q2 at *
  refine wp_loop_rounds 6 ?_
  rw [rounds_succ]
  obtain ⟨c8_0, c8_1, c8_2, c8_3, c8_4⟩ := N5.out.five
  go_wp2_with fail
  clear c8_0 c8_1 c8_2 c8_3 c8_4
  refine Calls.mono (K0.out _) ?_
  rintro e v9 ⟨rfl, b10⟩
  have N12 : Hid (Cl v9 w.heap.size #[.int .i64 n0, .int .i64 n1, .int .i64 n2, .int .i64 n3, .int .i64 n4] 23) := Cl.on N4.out b10
  have N13 : Hid (Cl v9 q2 #[.int .i64 n0, .int .i64 n1, .int .i64 n2, .int .i64 n3, .int .i64 n4] 3) := Cl.on N5.out b10
  have B11 : Hid (Below w.heap.size w v9) := B3.out.trans (b10.mono B3.out.size)
  clear b10 N4 N5 B3
  go_wp2_with fail
  rw [rounds_succ]
  obtain ⟨c14_0, c14_1, c14_2, c14_3, c14_4⟩ := N13.out.five
  go_wp2_with fail
  clear c14_0 c14_1 c14_2 c14_3 c14_4
  refine Calls.mono (K1.out _) ?_
  rintro e v15 ⟨rfl, b16⟩
  have N18 : Hid (Cl v15 w.heap.size #[.int .i64 n0, .int .i64 n1, .int .i64 n2, .int .i64 n3, .int .i64 n4] 23) := Cl.on N12.out b16
  have N19 : Hid (Cl v15 q2 #[.int .i64 n0, .int .i64 n1, .int .i64 n2, .int .i64 n3, .int .i64 n4] 3) := Cl.on N13.out b16
  have B17 : Hid (Below w.heap.size w v15) := B11.out.trans (b16.mono B11.out.size)
  clear b16 N12 N13 B11
  clear K1
  go_wp2_with fail
  rw [rounds_succ]
  obtain ⟨c20_0, c20_1, c20_2, c20_3, c20_4⟩ := N19.out.five
  go_wp2_with fail
  clear c20_0 c20_1 c20_2 c20_3 c20_4
  refine Calls.mono (K2.out _) ?_
  rintro e v21 ⟨rfl, b22⟩
  have N24 : Hid (Cl v21 w.heap.size #[.int .i64 n0, .int .i64 n1, .int .i64 n2, .int .i64 n3, .int .i64 n4] 23) := Cl.on N18.out b22
  have N25 : Hid (Cl v21 q2 #[.int .i64 n0, .int .i64 n1, .int .i64 n2, .int .i64 n3, .int .i64 n4] 3) := Cl.on N19.out b22
  have B23 : Hid (Below w.heap.size w v21) := B17.out.trans (b22.mono B17.out.size)
  clear b22 N18 N19 B17
  clear K2
  go_wp2_with fail
  rw [rounds_succ]
  obtain ⟨c26_0, c26_1, c26_2, c26_3, c26_4⟩ := N25.out.five
  go_wp2_with fail
  clear c26_0 c26_1 c26_2 c26_3 c26_4
  refine Calls.mono (K3.out _) ?_
  rintro e v27 ⟨rfl, b28⟩
  have N30 : Hid (Cl v27 w.heap.size #[.int .i64 n0, .int .i64 n1, .int .i64 n2, .int .i64 n3, .int .i64 n4] 23) := Cl.on N24.out b28
  have N31 : Hid (Cl v27 q2 #[.int .i64 n0, .int .i64 n1, .int .i64 n2, .int .i64 n3, .int .i64 n4] 3) := Cl.on N25.out b28
  have B29 : Hid (Below w.heap.size w v27) := B23.out.trans (b28.mono B23.out.size)
  clear b28 N24 N25 B23
  clear K3
  go_wp2_with fail
  rw [rounds_succ]
  obtain ⟨c32_0, c32_1, c32_2, c32_3, c32_4⟩ := N31.out.five
  go_wp2_with fail
  clear c32_0 c32_1 c32_2 c32_3 c32_4
  refine Calls.mono (K4.out _) ?_
  rintro e v33 ⟨rfl, b34⟩
  have N36 : Hid (Cl v33 w.heap.size #[.int .i64 n0, .int .i64 n1, .int .i64 n2, .int .i64 n3, .int .i64 n4] 23) := Cl.on N30.out b34
  have N37 : Hid (Cl v33 q2 #[.int .i64 n0, .int .i64 n1, .int .i64 n2, .int .i64 n3, .int .i64 n4] 3) := Cl.on N31.out b34
  have B35 : Hid (Below w.heap.size w v33) := B29.out.trans (b34.mono B29.out.size)
  clear b34 N30 N31 B29
  clear K4
  go_wp2_with fail
  rw [rounds_succ]
  go_wp2
  go_ret2
  exact ⟨rfl, B35.out⟩

set_option maxRecDepth 100000 in
set_option maxHeartbeats 2000000 in
theorem renc_no3 (r : Rt) (hw : r.wf) (w : World) (hz : r.ep ≠ 0) (h0 : putB 4 r.ep = true) (h1 : putB 4 r.pg = true) (h2 : putB 4 r.ct = true) (h3 : putB 4 r.fr = false) : Calls Tryd.prog 11 #[rtV r] w fun e w' => e = .returned (.tuple #[.string ⟨#[]⟩, .bool false]) ∧ Below w.heap.size w w' := by
  have hne : (r.ep != 0) = true := bne_iff_ne.2 hz
  have K0 : Hid (∀ u, Calls Tryd.prog 27 #[.int .i64 4, .int .i64 r.ep] u fun e w' => e = .returned (.tuple #[.string ⟨(qS r.ep).toArray⟩, .bool true]) ∧ Below u.heap.size u w') := fun u => by
    have := qput_all r.ep u hw.1
    rw [h0] at this
    exact this
  have K1 : Hid (∀ u, Calls Tryd.prog 27 #[.int .i64 4, .int .i64 r.pg] u fun e w' => e = .returned (.tuple #[.string ⟨(qS r.pg).toArray⟩, .bool true]) ∧ Below u.heap.size u w') := fun u => by
    have := qput_all r.pg u hw.2.1
    rw [h1] at this
    exact this
  have K2 : Hid (∀ u, Calls Tryd.prog 27 #[.int .i64 4, .int .i64 r.ct] u fun e w' => e = .returned (.tuple #[.string ⟨(qS r.ct).toArray⟩, .bool true]) ∧ Below u.heap.size u w') := fun u => by
    have := qput_all r.ct u hw.2.2.1
    rw [h2] at this
    exact this
  have K3 : Hid (∀ u, Calls Tryd.prog 27 #[.int .i64 4, .int .i64 r.fr] u fun e w' => e = .returned (.tuple #[.string ⟨(qS r.fr).toArray⟩, .bool false]) ∧ Below u.heap.size u w') := fun u => by
    have := qput_all r.fr u hw.2.2.2.1
    rw [h3] at this
    exact this
  have K4 : Hid (∀ u, Calls Tryd.prog 27 #[.int .i64 4, .int .i64 r.nx] u fun e w' => e = .returned (.tuple #[.string ⟨(qS r.nx).toArray⟩, .bool (putB 4 r.nx)]) ∧ Below u.heap.size u w') := fun u => by
    have := qput_all r.nx u hw.2.2.2.2
    skip
    exact this
  have L0 : (qS r.ep).length ≤ 4 := qS_length _
  have L1 : (qS r.pg).length ≤ 4 := qS_length _
  have L2 : (qS r.ct).length ≤ 4 := qS_length _
  have L3 : (qS r.fr).length ≤ 4 := qS_length _
  have L4 : (qS r.nx).length ≤ 4 := qS_length _
  generalize qS r.ep = X0 at *
  generalize qS r.pg = X1 at *
  generalize qS r.ct = X2 at *
  generalize qS r.fr = X3 at *
  generalize qS r.nx = X4 at *
  generalize putB 4 r.nx = g4 at *
  clear hz hw h0 h1 h2 h3
  unfold rtV at *
  obtain ⟨n0, n1, n2, n3, n4⟩ := r
  dsimp only at *
  go_enter Tryd.func11, Tryd.ntmps11
  go_wp2_with fail
  have N4 : Hid (Cl ((w.alloc (.cells #[.int .i64 n0, .int .i64 n1, .int .i64 n2, .int .i64 n3, .int .i64 n4] 23)).alloc (.cells #[.int .i64 n0, .int .i64 n1, .int .i64 n2, .int .i64 n3, .int .i64 n4] 3)) w.heap.size #[.int .i64 n0, .int .i64 n1, .int .i64 n2, .int .i64 n3, .int .i64 n4] 23) := Cl.alloc (Cl.new _ _ _) _
  have N5 : Hid (Cl ((w.alloc (.cells #[.int .i64 n0, .int .i64 n1, .int .i64 n2, .int .i64 n3, .int .i64 n4] 23)).alloc (.cells #[.int .i64 n0, .int .i64 n1, .int .i64 n2, .int .i64 n3, .int .i64 n4] 3)) (w.heap.size + 1) #[.int .i64 n0, .int .i64 n1, .int .i64 n2, .int .i64 n3, .int .i64 n4] 3) := by
    have := Cl.new (w.alloc (.cells #[.int .i64 n0, .int .i64 n1, .int .i64 n2, .int .i64 n3, .int .i64 n4] 23)) #[.int .i64 n0, .int .i64 n1, .int .i64 n2, .int .i64 n3, .int .i64 n4] 3
    rw [show (w.alloc (.cells #[.int .i64 n0, .int .i64 n1, .int .i64 n2, .int .i64 n3, .int .i64 n4] 23)).heap.size = w.heap.size + 1 by simp] at this
    exact this
  have B3 : Hid (Below w.heap.size w ((w.alloc (.cells #[.int .i64 n0, .int .i64 n1, .int .i64 n2, .int .i64 n3, .int .i64 n4] 23)).alloc (.cells #[.int .i64 n0, .int .i64 n1, .int .i64 n2, .int .i64 n3, .int .i64 n4] 3))) := ((Below.refl _ _).alloc (Nat.le_refl _) _).alloc (by simp) _
  have L6 : Hid (w.heap.size ≤ w.heap.size) := Nat.le_refl _
  have L7 : Hid (w.heap.size ≤ w.heap.size + 1) := Nat.le_succ _
  generalize (w.alloc (.cells #[.int .i64 n0, .int .i64 n1, .int .i64 n2, .int .i64 n3, .int .i64 n4] 23)).alloc (.cells #[.int .i64 n0, .int .i64 n1, .int .i64 n2, .int .i64 n3, .int .i64 n4] 3) = v1 at *
  generalize w.heap.size + 1 = q2 at *
  refine wp_loop_rounds 6 ?_
  rw [rounds_succ]
  obtain ⟨c8_0, c8_1, c8_2, c8_3, c8_4⟩ := N5.out.five
  go_wp2_with fail
  clear c8_0 c8_1 c8_2 c8_3 c8_4
  refine Calls.mono (K0.out _) ?_
  rintro e v9 ⟨rfl, b10⟩
  have N12 : Hid (Cl v9 w.heap.size #[.int .i64 n0, .int .i64 n1, .int .i64 n2, .int .i64 n3, .int .i64 n4] 23) := Cl.on N4.out b10
  have N13 : Hid (Cl v9 q2 #[.int .i64 n0, .int .i64 n1, .int .i64 n2, .int .i64 n3, .int .i64 n4] 3) := Cl.on N5.out b10
  have B11 : Hid (Below w.heap.size w v9) := B3.out.trans (b10.mono B3.out.size)
  clear b10 N4 N5 B3
  go_wp2_with fail
  rw [rounds_succ]
  obtain ⟨c14_0, c14_1, c14_2, c14_3, c14_4⟩ := N13.out.five
  go_wp2_with fail
  clear c14_0 c14_1 c14_2 c14_3 c14_4
  refine Calls.mono (K1.out _) ?_
  rintro e v15 ⟨rfl, b16⟩
  have N18 : Hid (Cl v15 w.heap.size #[.int .i64 n0, .int .i64 n1, .int .i64 n2, .int .i64 n3, .int .i64 n4] 23) := Cl.on N12.out b16
  have N19 : Hid (Cl v15 q2 #[.int .i64 n0, .int .i64 n1, .int .i64 n2, .int .i64 n3, .int .i64 n4] 3) := Cl.on N13.out b16
  have B17 : Hid (Below w.heap.size w v15) := B11.out.trans (b16.mono B11.out.size)
  clear b16 N12 N13 B11
  clear K1
  go_wp2_with fail
  rw [rounds_succ]
  obtain ⟨c20_0, c20_1, c20_2, c20_3, c20_4⟩ := N19.out.five
  go_wp2_with fail
  clear c20_0 c20_1 c20_2 c20_3 c20_4
  refine Calls.mono (K2.out _) ?_
  rintro e v21 ⟨rfl, b22⟩
  have N24 : Hid (Cl v21 w.heap.size #[.int .i64 n0, .int .i64 n1, .int .i64 n2, .int .i64 n3, .int .i64 n4] 23) := Cl.on N18.out b22
  have N25 : Hid (Cl v21 q2 #[.int .i64 n0, .int .i64 n1, .int .i64 n2, .int .i64 n3, .int .i64 n4] 3) := Cl.on N19.out b22
  have B23 : Hid (Below w.heap.size w v21) := B17.out.trans (b22.mono B17.out.size)
  clear b22 N18 N19 B17
  clear K2
  go_wp2_with fail
  rw [rounds_succ]
  obtain ⟨c26_0, c26_1, c26_2, c26_3, c26_4⟩ := N25.out.five
  go_wp2_with fail
  clear c26_0 c26_1 c26_2 c26_3 c26_4
  refine Calls.mono (K3.out _) ?_
  rintro e v27 ⟨rfl, b28⟩
  have N30 : Hid (Cl v27 w.heap.size #[.int .i64 n0, .int .i64 n1, .int .i64 n2, .int .i64 n3, .int .i64 n4] 23) := Cl.on N24.out b28
  have N31 : Hid (Cl v27 q2 #[.int .i64 n0, .int .i64 n1, .int .i64 n2, .int .i64 n3, .int .i64 n4] 3) := Cl.on N25.out b28
  have B29 : Hid (Below w.heap.size w v27) := B23.out.trans (b28.mono B23.out.size)
  clear b28 N24 N25 B23
  clear K3
  go_wp2_with fail
  rw [rounds_succ]
  obtain ⟨c32_0, c32_1, c32_2, c32_3, c32_4⟩ := N31.out.five
  go_wp2_with fail
  clear c32_0 c32_1 c32_2 c32_3 c32_4
  refine Calls.mono (K4.out _) ?_
  rintro e v33 ⟨rfl, b34⟩
  have N36 : Hid (Cl v33 w.heap.size #[.int .i64 n0, .int .i64 n1, .int .i64 n2, .int .i64 n3, .int .i64 n4] 23) := Cl.on N30.out b34
  have N37 : Hid (Cl v33 q2 #[.int .i64 n0, .int .i64 n1, .int .i64 n2, .int .i64 n3, .int .i64 n4] 3) := Cl.on N31.out b34
  have B35 : Hid (Below w.heap.size w v33) := B29.out.trans (b34.mono B29.out.size)
  clear b34 N30 N31 B29
  clear K4
  go_wp2_with fail
  rw [rounds_succ]
  go_wp2
  go_ret2
  exact ⟨rfl, B35.out⟩

set_option maxRecDepth 100000 in
set_option maxHeartbeats 2000000 in
theorem renc_no4 (r : Rt) (hw : r.wf) (w : World) (hz : r.ep ≠ 0) (h0 : putB 4 r.ep = true) (h1 : putB 4 r.pg = true) (h2 : putB 4 r.ct = true) (h3 : putB 4 r.fr = true) (h4 : putB 4 r.nx = false) : Calls Tryd.prog 11 #[rtV r] w fun e w' => e = .returned (.tuple #[.string ⟨#[]⟩, .bool false]) ∧ Below w.heap.size w w' := by
  have hne : (r.ep != 0) = true := bne_iff_ne.2 hz
  have K0 : Hid (∀ u, Calls Tryd.prog 27 #[.int .i64 4, .int .i64 r.ep] u fun e w' => e = .returned (.tuple #[.string ⟨(qS r.ep).toArray⟩, .bool true]) ∧ Below u.heap.size u w') := fun u => by
    have := qput_all r.ep u hw.1
    rw [h0] at this
    exact this
  have K1 : Hid (∀ u, Calls Tryd.prog 27 #[.int .i64 4, .int .i64 r.pg] u fun e w' => e = .returned (.tuple #[.string ⟨(qS r.pg).toArray⟩, .bool true]) ∧ Below u.heap.size u w') := fun u => by
    have := qput_all r.pg u hw.2.1
    rw [h1] at this
    exact this
  have K2 : Hid (∀ u, Calls Tryd.prog 27 #[.int .i64 4, .int .i64 r.ct] u fun e w' => e = .returned (.tuple #[.string ⟨(qS r.ct).toArray⟩, .bool true]) ∧ Below u.heap.size u w') := fun u => by
    have := qput_all r.ct u hw.2.2.1
    rw [h2] at this
    exact this
  have K3 : Hid (∀ u, Calls Tryd.prog 27 #[.int .i64 4, .int .i64 r.fr] u fun e w' => e = .returned (.tuple #[.string ⟨(qS r.fr).toArray⟩, .bool true]) ∧ Below u.heap.size u w') := fun u => by
    have := qput_all r.fr u hw.2.2.2.1
    rw [h3] at this
    exact this
  have K4 : Hid (∀ u, Calls Tryd.prog 27 #[.int .i64 4, .int .i64 r.nx] u fun e w' => e = .returned (.tuple #[.string ⟨(qS r.nx).toArray⟩, .bool false]) ∧ Below u.heap.size u w') := fun u => by
    have := qput_all r.nx u hw.2.2.2.2
    rw [h4] at this
    exact this
  have L0 : (qS r.ep).length ≤ 4 := qS_length _
  have L1 : (qS r.pg).length ≤ 4 := qS_length _
  have L2 : (qS r.ct).length ≤ 4 := qS_length _
  have L3 : (qS r.fr).length ≤ 4 := qS_length _
  have L4 : (qS r.nx).length ≤ 4 := qS_length _
  generalize qS r.ep = X0 at *
  generalize qS r.pg = X1 at *
  generalize qS r.ct = X2 at *
  generalize qS r.fr = X3 at *
  generalize qS r.nx = X4 at *
  clear hz hw h0 h1 h2 h3 h4
  unfold rtV at *
  obtain ⟨n0, n1, n2, n3, n4⟩ := r
  dsimp only at *
  go_enter Tryd.func11, Tryd.ntmps11
  go_wp2_with fail
  have N4 : Hid (Cl ((w.alloc (.cells #[.int .i64 n0, .int .i64 n1, .int .i64 n2, .int .i64 n3, .int .i64 n4] 23)).alloc (.cells #[.int .i64 n0, .int .i64 n1, .int .i64 n2, .int .i64 n3, .int .i64 n4] 3)) w.heap.size #[.int .i64 n0, .int .i64 n1, .int .i64 n2, .int .i64 n3, .int .i64 n4] 23) := Cl.alloc (Cl.new _ _ _) _
  have N5 : Hid (Cl ((w.alloc (.cells #[.int .i64 n0, .int .i64 n1, .int .i64 n2, .int .i64 n3, .int .i64 n4] 23)).alloc (.cells #[.int .i64 n0, .int .i64 n1, .int .i64 n2, .int .i64 n3, .int .i64 n4] 3)) (w.heap.size + 1) #[.int .i64 n0, .int .i64 n1, .int .i64 n2, .int .i64 n3, .int .i64 n4] 3) := by
    have := Cl.new (w.alloc (.cells #[.int .i64 n0, .int .i64 n1, .int .i64 n2, .int .i64 n3, .int .i64 n4] 23)) #[.int .i64 n0, .int .i64 n1, .int .i64 n2, .int .i64 n3, .int .i64 n4] 3
    rw [show (w.alloc (.cells #[.int .i64 n0, .int .i64 n1, .int .i64 n2, .int .i64 n3, .int .i64 n4] 23)).heap.size = w.heap.size + 1 by simp] at this
    exact this
  have B3 : Hid (Below w.heap.size w ((w.alloc (.cells #[.int .i64 n0, .int .i64 n1, .int .i64 n2, .int .i64 n3, .int .i64 n4] 23)).alloc (.cells #[.int .i64 n0, .int .i64 n1, .int .i64 n2, .int .i64 n3, .int .i64 n4] 3))) := ((Below.refl _ _).alloc (Nat.le_refl _) _).alloc (by simp) _
  have L6 : Hid (w.heap.size ≤ w.heap.size) := Nat.le_refl _
  have L7 : Hid (w.heap.size ≤ w.heap.size + 1) := Nat.le_succ _
  generalize (w.alloc (.cells #[.int .i64 n0, .int .i64 n1, .int .i64 n2, .int .i64 n3, .int .i64 n4] 23)).alloc (.cells #[.int .i64 n0, .int .i64 n1, .int .i64 n2, .int .i64 n3, .int .i64 n4] 3) = v1 at *
  generalize w.heap.size + 1 = q2 at *
  refine wp_loop_rounds 6 ?_
  rw [rounds_succ]
  obtain ⟨c8_0, c8_1, c8_2, c8_3, c8_4⟩ := N5.out.five
  go_wp2_with fail
  clear c8_0 c8_1 c8_2 c8_3 c8_4
  refine Calls.mono (K0.out _) ?_
  rintro e v9 ⟨rfl, b10⟩
  have N12 : Hid (Cl v9 w.heap.size #[.int .i64 n0, .int .i64 n1, .int .i64 n2, .int .i64 n3, .int .i64 n4] 23) := Cl.on N4.out b10
  have N13 : Hid (Cl v9 q2 #[.int .i64 n0, .int .i64 n1, .int .i64 n2, .int .i64 n3, .int .i64 n4] 3) := Cl.on N5.out b10
  have B11 : Hid (Below w.heap.size w v9) := B3.out.trans (b10.mono B3.out.size)
  clear b10 N4 N5 B3
  go_wp2_with fail
  rw [rounds_succ]
  obtain ⟨c14_0, c14_1, c14_2, c14_3, c14_4⟩ := N13.out.five
  go_wp2_with fail
  clear c14_0 c14_1 c14_2 c14_3 c14_4
  refine Calls.mono (K1.out _) ?_
  rintro e v15 ⟨rfl, b16⟩
  have N18 : Hid (Cl v15 w.heap.size #[.int .i64 n0, .int .i64 n1, .int .i64 n2, .int .i64 n3, .int .i64 n4] 23) := Cl.on N12.out b16
  have N19 : Hid (Cl v15 q2 #[.int .i64 n0, .int .i64 n1, .int .i64 n2, .int .i64 n3, .int .i64 n4] 3) := Cl.on N13.out b16
  have B17 : Hid (Below w.heap.size w v15) := B11.out.trans (b16.mono B11.out.size)
  clear b16 N12 N13 B11
  clear K1
  go_wp2_with fail
  rw [rounds_succ]
  obtain ⟨c20_0, c20_1, c20_2, c20_3, c20_4⟩ := N19.out.five
  go_wp2_with fail
  clear c20_0 c20_1 c20_2 c20_3 c20_4
  refine Calls.mono (K2.out _) ?_
  rintro e v21 ⟨rfl, b22⟩
  have N24 : Hid (Cl v21 w.heap.size #[.int .i64 n0, .int .i64 n1, .int .i64 n2, .int .i64 n3, .int .i64 n4] 23) := Cl.on N18.out b22
  have N25 : Hid (Cl v21 q2 #[.int .i64 n0, .int .i64 n1, .int .i64 n2, .int .i64 n3, .int .i64 n4] 3) := Cl.on N19.out b22
  have B23 : Hid (Below w.heap.size w v21) := B17.out.trans (b22.mono B17.out.size)
  clear b22 N18 N19 B17
  clear K2
  go_wp2_with fail
  rw [rounds_succ]
  obtain ⟨c26_0, c26_1, c26_2, c26_3, c26_4⟩ := N25.out.five
  go_wp2_with fail
  clear c26_0 c26_1 c26_2 c26_3 c26_4
  refine Calls.mono (K3.out _) ?_
  rintro e v27 ⟨rfl, b28⟩
  have N30 : Hid (Cl v27 w.heap.size #[.int .i64 n0, .int .i64 n1, .int .i64 n2, .int .i64 n3, .int .i64 n4] 23) := Cl.on N24.out b28
  have N31 : Hid (Cl v27 q2 #[.int .i64 n0, .int .i64 n1, .int .i64 n2, .int .i64 n3, .int .i64 n4] 3) := Cl.on N25.out b28
  have B29 : Hid (Below w.heap.size w v27) := B23.out.trans (b28.mono B23.out.size)
  clear b28 N24 N25 B23
  clear K3
  go_wp2_with fail
  rw [rounds_succ]
  obtain ⟨c32_0, c32_1, c32_2, c32_3, c32_4⟩ := N31.out.five
  go_wp2_with fail
  clear c32_0 c32_1 c32_2 c32_3 c32_4
  refine Calls.mono (K4.out _) ?_
  rintro e v33 ⟨rfl, b34⟩
  have N36 : Hid (Cl v33 w.heap.size #[.int .i64 n0, .int .i64 n1, .int .i64 n2, .int .i64 n3, .int .i64 n4] 23) := Cl.on N30.out b34
  have N37 : Hid (Cl v33 q2 #[.int .i64 n0, .int .i64 n1, .int .i64 n2, .int .i64 n3, .int .i64 n4] 3) := Cl.on N31.out b34
  have B35 : Hid (Below w.heap.size w v33) := B29.out.trans (b34.mono B29.out.size)
  clear b34 N30 N31 B29
  clear K4
  go_wp2_with fail
  rw [rounds_succ]
  go_wp2
  go_ret2
  exact ⟨rfl, B35.out⟩

set_option maxRecDepth 100000 in
set_option maxHeartbeats 2000000 in
theorem renc_ok (r : Rt) (hw : r.wf) (w : World) (hz : r.ep ≠ 0) (h0 : putB 4 r.ep = true) (h1 : putB 4 r.pg = true) (h2 : putB 4 r.ct = true) (h3 : putB 4 r.fr = true) (h4 : putB 4 r.nx = true) : Calls Tryd.prog 11 #[rtV r] w fun e w' => e = .returned (.tuple #[.string ⟨(slotL r).toArray⟩, .bool true]) ∧ Below w.heap.size w w' := by
  have hne : (r.ep != 0) = true := bne_iff_ne.2 hz
  have K0 : Hid (∀ u, Calls Tryd.prog 27 #[.int .i64 4, .int .i64 r.ep] u fun e w' => e = .returned (.tuple #[.string ⟨(beBytes 4 r.ep.toNat).toArray⟩, .bool true]) ∧ Below u.heap.size u w') := fun u => by
    have := qput_all r.ep u hw.1
    rw [qS_ok h0, h0] at this
    exact this
  have K1 : Hid (∀ u, Calls Tryd.prog 27 #[.int .i64 4, .int .i64 r.pg] u fun e w' => e = .returned (.tuple #[.string ⟨(beBytes 4 r.pg.toNat).toArray⟩, .bool true]) ∧ Below u.heap.size u w') := fun u => by
    have := qput_all r.pg u hw.2.1
    rw [qS_ok h1, h1] at this
    exact this
  have K2 : Hid (∀ u, Calls Tryd.prog 27 #[.int .i64 4, .int .i64 r.ct] u fun e w' => e = .returned (.tuple #[.string ⟨(beBytes 4 r.ct.toNat).toArray⟩, .bool true]) ∧ Below u.heap.size u w') := fun u => by
    have := qput_all r.ct u hw.2.2.1
    rw [qS_ok h2, h2] at this
    exact this
  have K3 : Hid (∀ u, Calls Tryd.prog 27 #[.int .i64 4, .int .i64 r.fr] u fun e w' => e = .returned (.tuple #[.string ⟨(beBytes 4 r.fr.toNat).toArray⟩, .bool true]) ∧ Below u.heap.size u w') := fun u => by
    have := qput_all r.fr u hw.2.2.2.1
    rw [qS_ok h3, h3] at this
    exact this
  have K4 : Hid (∀ u, Calls Tryd.prog 27 #[.int .i64 4, .int .i64 r.nx] u fun e w' => e = .returned (.tuple #[.string ⟨(beBytes 4 r.nx.toNat).toArray⟩, .bool true]) ∧ Below u.heap.size u w') := fun u => by
    have := qput_all r.nx u hw.2.2.2.2
    rw [qS_ok h4, h4] at this
    exact this
  have EB : Hid (bodyL r = headL r ++ List.replicate 228 0) := rfl
  have EH : Hid (headL r = beBytes 4 r.ep.toNat ++ (beBytes 4 r.pg.toNat ++ (beBytes 4 r.ct.toNat ++ (beBytes 4 r.fr.toNat ++ beBytes 4 r.nx.toNat)))) := rfl
  have ES : Hid (slotL r = bodyL r ++ (beBytes 4 (sumN (bodyL r)) ++ beBytes 4 r.ep.toNat)) := rfl
  have LH : (headL r).length = 20 := headL_length r
  have LB : (bodyL r).length = 248 := bodyL_length r
  have hS : sumN (bodyL r) < 4294967296 := sumN_lt _
  generalize headL r = HD at *
  generalize bodyL r = BD at *
  generalize slotL r = SL at *
  have L0 : (beBytes 4 r.ep.toNat).length = 4 := beBytes_length _ _
  have L1 : (beBytes 4 r.pg.toNat).length = 4 := beBytes_length _ _
  have L2 : (beBytes 4 r.ct.toNat).length = 4 := beBytes_length _ _
  have L3 : (beBytes 4 r.fr.toNat).length = 4 := beBytes_length _ _
  have L4 : (beBytes 4 r.nx.toNat).length = 4 := beBytes_length _ _
  generalize beBytes 4 r.ep.toNat = X0 at *
  generalize beBytes 4 r.pg.toNat = X1 at *
  generalize beBytes 4 r.ct.toNat = X2 at *
  generalize beBytes 4 r.fr.toNat = X3 at *
  generalize beBytes 4 r.nx.toNat = X4 at *
  clear hz hw h0 h1 h2 h3 h4
  unfold rtV at *
  obtain ⟨n0, n1, n2, n3, n4⟩ := r
  dsimp only at *
  go_enter Tryd.func11, Tryd.ntmps11
  go_wp2_with fail
  have N4 : Hid (Cl ((w.alloc (.cells #[.int .i64 n0, .int .i64 n1, .int .i64 n2, .int .i64 n3, .int .i64 n4] 23)).alloc (.cells #[.int .i64 n0, .int .i64 n1, .int .i64 n2, .int .i64 n3, .int .i64 n4] 3)) w.heap.size #[.int .i64 n0, .int .i64 n1, .int .i64 n2, .int .i64 n3, .int .i64 n4] 23) := Cl.alloc (Cl.new _ _ _) _
  have N5 : Hid (Cl ((w.alloc (.cells #[.int .i64 n0, .int .i64 n1, .int .i64 n2, .int .i64 n3, .int .i64 n4] 23)).alloc (.cells #[.int .i64 n0, .int .i64 n1, .int .i64 n2, .int .i64 n3, .int .i64 n4] 3)) (w.heap.size + 1) #[.int .i64 n0, .int .i64 n1, .int .i64 n2, .int .i64 n3, .int .i64 n4] 3) := by
    have := Cl.new (w.alloc (.cells #[.int .i64 n0, .int .i64 n1, .int .i64 n2, .int .i64 n3, .int .i64 n4] 23)) #[.int .i64 n0, .int .i64 n1, .int .i64 n2, .int .i64 n3, .int .i64 n4] 3
    rw [show (w.alloc (.cells #[.int .i64 n0, .int .i64 n1, .int .i64 n2, .int .i64 n3, .int .i64 n4] 23)).heap.size = w.heap.size + 1 by simp] at this
    exact this
  have B3 : Hid (Below w.heap.size w ((w.alloc (.cells #[.int .i64 n0, .int .i64 n1, .int .i64 n2, .int .i64 n3, .int .i64 n4] 23)).alloc (.cells #[.int .i64 n0, .int .i64 n1, .int .i64 n2, .int .i64 n3, .int .i64 n4] 3))) := ((Below.refl _ _).alloc (Nat.le_refl _) _).alloc (by simp) _
  have L6 : Hid (w.heap.size ≤ w.heap.size) := Nat.le_refl _
  have L7 : Hid (w.heap.size ≤ w.heap.size + 1) := Nat.le_succ _
  generalize (w.alloc (.cells #[.int .i64 n0, .int .i64 n1, .int .i64 n2, .int .i64 n3, .int .i64 n4] 23)).alloc (.cells #[.int .i64 n0, .int .i64 n1, .int .i64 n2, .int .i64 n3, .int .i64 n4] 3) = v1 at *
  generalize w.heap.size + 1 = q2 at *
  refine wp_loop_rounds 6 ?_
  rw [rounds_succ]
  obtain ⟨c8_0, c8_1, c8_2, c8_3, c8_4⟩ := N5.out.five
  go_wp2_with fail
  clear c8_0 c8_1 c8_2 c8_3 c8_4
  refine Calls.mono (K0.out _) ?_
  rintro e v9 ⟨rfl, b10⟩
  have N12 : Hid (Cl v9 w.heap.size #[.int .i64 n0, .int .i64 n1, .int .i64 n2, .int .i64 n3, .int .i64 n4] 23) := Cl.on N4.out b10
  have N13 : Hid (Cl v9 q2 #[.int .i64 n0, .int .i64 n1, .int .i64 n2, .int .i64 n3, .int .i64 n4] 3) := Cl.on N5.out b10
  have B11 : Hid (Below w.heap.size w v9) := B3.out.trans (b10.mono B3.out.size)
  clear b10 N4 N5 B3
  go_wp2_with fail
  rw [rounds_succ]
  obtain ⟨c14_0, c14_1, c14_2, c14_3, c14_4⟩ := N13.out.five
  go_wp2_with fail
  clear c14_0 c14_1 c14_2 c14_3 c14_4
  refine Calls.mono (K1.out _) ?_
  rintro e v15 ⟨rfl, b16⟩
  have N18 : Hid (Cl v15 w.heap.size #[.int .i64 n0, .int .i64 n1, .int .i64 n2, .int .i64 n3, .int .i64 n4] 23) := Cl.on N12.out b16
  have N19 : Hid (Cl v15 q2 #[.int .i64 n0, .int .i64 n1, .int .i64 n2, .int .i64 n3, .int .i64 n4] 3) := Cl.on N13.out b16
  have B17 : Hid (Below w.heap.size w v15) := B11.out.trans (b16.mono B11.out.size)
  clear b16 N12 N13 B11
  clear K1
  go_wp2_with fail
  rw [rounds_succ]
  obtain ⟨c20_0, c20_1, c20_2, c20_3, c20_4⟩ := N19.out.five
  go_wp2_with fail
  clear c20_0 c20_1 c20_2 c20_3 c20_4
  refine Calls.mono (K2.out _) ?_
  rintro e v21 ⟨rfl, b22⟩
  have N24 : Hid (Cl v21 w.heap.size #[.int .i64 n0, .int .i64 n1, .int .i64 n2, .int .i64 n3, .int .i64 n4] 23) := Cl.on N18.out b22
  have N25 : Hid (Cl v21 q2 #[.int .i64 n0, .int .i64 n1, .int .i64 n2, .int .i64 n3, .int .i64 n4] 3) := Cl.on N19.out b22
  have B23 : Hid (Below w.heap.size w v21) := B17.out.trans (b22.mono B17.out.size)
  clear b22 N18 N19 B17
  clear K2
  go_wp2_with fail
  rw [rounds_succ]
  obtain ⟨c26_0, c26_1, c26_2, c26_3, c26_4⟩ := N25.out.five
  go_wp2_with fail
  clear c26_0 c26_1 c26_2 c26_3 c26_4
  refine Calls.mono (K3.out _) ?_
  rintro e v27 ⟨rfl, b28⟩
  have N30 : Hid (Cl v27 w.heap.size #[.int .i64 n0, .int .i64 n1, .int .i64 n2, .int .i64 n3, .int .i64 n4] 23) := Cl.on N24.out b28
  have N31 : Hid (Cl v27 q2 #[.int .i64 n0, .int .i64 n1, .int .i64 n2, .int .i64 n3, .int .i64 n4] 3) := Cl.on N25.out b28
  have B29 : Hid (Below w.heap.size w v27) := B23.out.trans (b28.mono B23.out.size)
  clear b28 N24 N25 B23
  clear K3
  go_wp2_with fail
  rw [rounds_succ]
  obtain ⟨c32_0, c32_1, c32_2, c32_3, c32_4⟩ := N31.out.five
  go_wp2_with fail
  clear c32_0 c32_1 c32_2 c32_3 c32_4
  refine Calls.mono (K4.out _) ?_
  rintro e v33 ⟨rfl, b34⟩
  have N36 : Hid (Cl v33 w.heap.size #[.int .i64 n0, .int .i64 n1, .int .i64 n2, .int .i64 n3, .int .i64 n4] 23) := Cl.on N30.out b34
  have N37 : Hid (Cl v33 q2 #[.int .i64 n0, .int .i64 n1, .int .i64 n2, .int .i64 n3, .int .i64 n4] 3) := Cl.on N31.out b34
  have B35 : Hid (Below w.heap.size w v33) := B29.out.trans (b34.mono B29.out.size)
  clear b34 N30 N31 B29
  clear K4
  go_wp2_with fail
  rw [rounds_succ]
  have EHD : Hid (((((⟨#[]⟩ ++ ⟨X0.toArray⟩) ++ ⟨X1.toArray⟩) ++ ⟨X2.toArray⟩) ++ ⟨X3.toArray⟩) ++ ⟨X4.toArray⟩ = (⟨HD.toArray⟩ : ByteArray)) := by
    show _ = _
    rw [EH.out]
    apply ba_ext
    simp [ByteArray.data_append]
  go_wp2_with fail
  rw [EHD.out]
  clear EHD EH
  go_loopg [4] 228 (fun gk s4 wr => ∃ (j : Nat) (t : ByteArray), s4 = .string t ∧ t.size = 20 + j ∧ j ≤ 228 ∧ 228 - j ≤ gk ∧ Hid (t = ⟨(HD ++ List.replicate j 0).toArray⟩) ∧ wr = v33)
  case atStart => exact ⟨0, _, rfl, by rw [ba_size]; omega, by omega, by omega, by simp [Hid], rfl⟩
  case round =>
    obtain ⟨j, t, rfl, hsz, hj, hge, HT, rfl⟩ := hrel
    by_cases hlt : j < 228
    · have hlt' : (t.size : Int) < 248 := by omega
      go_wp2
      go_roundg (228 - (j + 1))
      case measure => omega
      case rel =>
        refine ⟨j + 1, t ++ ⟨#[0]⟩, rfl, ?_, by omega, Nat.le_refl _, ?_, rfl⟩
        · rw [ByteArray.size_append, hsz]; rfl
        · show _ = _
          rw [HT.out, show (⟨#[0]⟩ : ByteArray) = ⟨[0].toArray⟩ from rfl, ba_app, List.append_assoc]
          congr 3
          exact (List.replicate_succ' ..).symm
    · have ET : Hid (t = ⟨BD.toArray⟩) := by
        show _ = _
        rw [HT.out, EB.out, show j = 228 by omega]
      have hlt' : ¬ (t.size : Int) < 248 := by omega
      have ht : t.size = 248 := by omega
      have D1 : Hid (∀ u, _) := fun u => refSum t u (by rw [ht]; decide)
      rw [show t.data.toList = BD by rw [ET.out]] at D1
      have D2 : Hid (∀ u, Calls Tryd.prog 27 #[.int .i64 4, .int .i64 (sumN BD : Nat)] u fun r w' => r = .returned (.tuple #[.string ⟨(beBytes 4 (sumN BD)).toArray⟩, .bool (qok 4 (sumN BD))]) ∧ Below u.heap.size u w') := fun u => qput4 (sumN BD) u (by omega)
      have l4s : (beBytes 4 (sumN BD)).length = 4 := beBytes_length _ _
      clear hsz hj hge hlt HT
      generalize qok 4 (sumN BD) = Q4 at *
      generalize sumN BD = S at *
      generalize beBytes 4 S = Z4 at *
      go_wp2_with fail
      refine Calls.mono (D1.out _) ?_
      rintro e u38 ⟨rfl, rfl⟩
      go_wp2_with fail
      refine Calls.mono (D2.out _) ?_
      rintro e v39 ⟨rfl, b40⟩
      have N42 : Hid (Cl v39 w.heap.size #[.int .i64 n0, .int .i64 n1, .int .i64 n2, .int .i64 n3, .int .i64 n4] 23) := Cl.on N36.out b40
      have B41 : Hid (Below w.heap.size w v39) := B35.out.trans (b40.mono B35.out.size)
      clear b40 N36 B35
      obtain ⟨c43_0, c43_1, c43_2, c43_3, c43_4⟩ := N42.out.five
      go_wp2_with fail
      clear c43_0 c43_1 c43_2 c43_3 c43_4
      refine Calls.mono (K0.out _) ?_
      rintro e v44 ⟨rfl, b45⟩
      have N47 : Hid (Cl v44 w.heap.size #[.int .i64 n0, .int .i64 n1, .int .i64 n2, .int .i64 n3, .int .i64 n4] 23) := Cl.on N42.out b45
      have B46 : Hid (Below w.heap.size w v44) := B41.out.trans (b45.mono B41.out.size)
      clear b45 N42 B41
      go_wp2
      go_ret2
      rw [ES.out, ET.out, ba_app, ba_app, List.append_assoc]
      exact ⟨rfl, B46.out⟩

end Go.Proofs.YtalljfckjkbieaaDoor

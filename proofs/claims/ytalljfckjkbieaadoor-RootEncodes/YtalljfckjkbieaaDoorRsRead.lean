/-
  The walks of rootslot.split and rootslot.read: a root's numbers as an array.
-/
import Derived.Test.YtalljfckjkbieaaDoorRsKit
import Derived.Test.YtalljfckjkbieaaDoorRs
import Derived.LoopN
import Derived.Laws.ResultCell
namespace Go.Proofs.YtalljfckjkbieaaDoor
open Go.RowKit

set_option maxRecDepth 100000 in
set_option maxHeartbeats 1000000 in
theorem split_any (r : Rt) (w : World) : Calls Tryd.prog 22 #[rtV r] w fun e w' => e = .returned (rtV r) ∧ Below w.heap.size w w' := by
  obtain ⟨a, b, c, d, e⟩ := r
  unfold rtV
  dsimp only
  go_enter Tryd.func22, Tryd.ntmps22
  go_wp2
  refine bodyPost_ret (v := .agg #[.int .i64 a, .int .i64 b, .int .i64 c, .int .i64 d, .int .i64 e]) ?_ rfl ⟨rfl, ?_⟩
  · rw [results_cell rfl]
    go_simp
  · exact ((Below.refl _ _).alloc (Nat.le_refl _) _).alloc (by simp) _

set_option maxRecDepth 100000 in
set_option maxHeartbeats 1000000 in
theorem rdroot_any (s : ByteArray) (hs : s.size ≤ maxLen) (w : World) : Calls Tryd.prog 29 #[.string s] w fun e w' => e = .returned (rtV (rdP s)) ∧ Below w.heap.size w w' := by
  have C0 : Hid (∀ u, _) := fun u => read_any s u
  have R0 : Hid (∀ u, _) := fun u => Rd.made s hs u
  have P0 : Hid _ := Cl.new w #[.int .i64 0, .int .i64 0, .int .i64 0, .int .i64 0, .int .i64 0] 23
  unfold rtV rdP
  dsimp only
  go_enter Tryd.func29, Tryd.ntmps29
  go_wp2_with fail
  refine Calls.mono (C0.out _) ?_
  rintro e w0 ⟨rfl, h0⟩
  have R := R0.out (w.alloc (.cells #[.int .i64 0, .int .i64 0, .int .i64 0, .int .i64 0, .int .i64 0] 23))
  clear C0 R0
  rw [← h0] at R
  have B : Hid (Below w.heap.size w w0) := by
    show Below _ _ _
    rw [h0]
    exact ((Below.refl _ _).alloc (Nat.le_refl _) _).alloc (by simp) _
  have hz : w0.heap.size = w.heap.size + 2 := by rw [h0]; simp
  have P1 : Hid (Cl w0 w.heap.size #[.int .i64 0, .int .i64 0, .int .i64 0, .int .i64 0, .int .i64 0] 23) := by
    show Cl _ _ _ _
    rw [h0]
    exact Cl.alloc P0.out _
  rw [show (w.alloc (.cells #[.int .i64 0, .int .i64 0, .int .i64 0, .int .i64 0, .int .i64 0] 23)).heap.size = w.heap.size + 1 by simp] at R
  have RR : Hid _ := R
  clear h0 R P0
  go_wp2_with fail
  have N0 : Hid (Cl (w0.alloc (.cells #[.int .i64 0, .int .i64 0, .int .i64 0, .int .i64 0, .int .i64 0] 51)) (w.heap.size + 2) #[.int .i64 0, .int .i64 0, .int .i64 0, .int .i64 0, .int .i64 0] 51) := by
    show Cl _ _ _ _
    have := Cl.new w0 #[.int .i64 0, .int .i64 0, .int .i64 0, .int .i64 0, .int .i64 0] 51
    rw [hz] at this
    exact this
  have Q0 : Hid (Rd (w.heap.size + 1) s 0 (w0.alloc (.cells #[.int .i64 0, .int .i64 0, .int .i64 0, .int .i64 0, .int .i64 0] 51))) := RR.out.below ((Below.refl _ _).alloc (Nat.le_refl _) _) RR.out.lt
  have B0 : Hid (Below w.heap.size w (w0.alloc (.cells #[.int .i64 0, .int .i64 0, .int .i64 0, .int .i64 0, .int .i64 0] 51))) := B.out.alloc B.out.size _
  have P0 : Hid (Cl (w0.alloc (.cells #[.int .i64 0, .int .i64 0, .int .i64 0, .int .i64 0, .int .i64 0] 51)) w.heap.size #[.int .i64 0, .int .i64 0, .int .i64 0, .int .i64 0, .int .i64 0] 23) := P1.out.alloc _
  clear RR B P1 hz
  generalize w0.alloc (.cells #[.int .i64 0, .int .i64 0, .int .i64 0, .int .i64 0, .int .i64 0] 51) = v0 at *
  have h12 : w.heap.size + 2 ≠ w.heap.size + 1 := by omega
  have h01 : w.heap.size ≠ w.heap.size + 1 := by omega
  have h02 : w.heap.size ≠ w.heap.size + 2 := by omega
  have hl1 : Hid (w.heap.size ≤ w.heap.size + 1) := by show _ ≤ _; omega
  have hl2 : Hid (w.heap.size ≤ w.heap.size + 2) := by show _ ≤ _; omega
  have H12 : Hid (w.heap.size + 2 ≠ w.heap.size + 1) := h12
  have H01 : Hid (w.heap.size ≠ w.heap.size + 1) := h01
  have H02 : Hid (w.heap.size ≠ w.heap.size + 2) := h02
  clear h12 h01 h02
  generalize w.heap.size + 1 = b at *
  generalize w.heap.size + 2 = q at *
  refine wp_loop_rounds 6 ?_
  have I0 : Hid (Calls Tryd.prog 48 #[.pointer (some ⟨b, 0, none⟩), .int .i64 4] v0 fun r w' => r = .returned (.int .i64 (q1 s).1) ∧ Rd b (q1 s).2.1 (q1 s).2.2 w' ∧ Only b v0 w') := int_any b s 0 4 v0 Q0.out
  rw [rounds_succ]
  go_wp2_with fail
  refine Calls.mono I0.out ?_
  rintro e u0 ⟨rfl, r0, o0⟩
  have M : Hid (Cl u0 q #[.int .i64 0, .int .i64 0, .int .i64 0, .int .i64 0, .int .i64 0] 51) := N0.out.only o0 H12.out
  obtain ⟨c0, f0⟩ := M.out.at 0 rfl
  have N1 : Hid (Cl (u0.setCell ⟨q, 0, none⟩ (.int .i64 (q1 s).1)) q #[.int .i64 (q1 s).1, .int .i64 0, .int .i64 0, .int .i64 0, .int .i64 0] 51) := M.out.set 0 _
  have Q1 : Hid (Rd b (q1 s).2.1 (q1 s).2.2 (u0.setCell ⟨q, 0, none⟩ (.int .i64 (q1 s).1))) := r0.keep (Only.setCell q 0 u0 _) H12.out.symm
  have P1 : Hid (Cl (u0.setCell ⟨q, 0, none⟩ (.int .i64 (q1 s).1)) w.heap.size #[.int .i64 0, .int .i64 0, .int .i64 0, .int .i64 0, .int .i64 0] 23) := (P0.out.only o0 H01.out).only (Only.setCell q 0 u0 _) H02.out
  have B1 : Hid (Below w.heap.size w (u0.setCell ⟨q, 0, none⟩ (.int .i64 (q1 s).1))) := (B0.out.trans (o0.below hl1.out)).trans ((Only.setCell q 0 u0 _).below hl2.out)
  clear r0 o0 I0 M N0 Q0 P0 B0
  go_wp2_with fail
  generalize u0.setCell ⟨q, 0, none⟩ (.int .i64 (q1 s).1) = v1 at *
  clear c0 f0
  have I1 : Hid (Calls Tryd.prog 48 #[.pointer (some ⟨b, 0, none⟩), .int .i64 4] v1 fun r w' => r = .returned (.int .i64 (q2 s).1) ∧ Rd b (q2 s).2.1 (q2 s).2.2 w' ∧ Only b v1 w') := int_any b (q1 s).2.1 (q1 s).2.2 4 v1 Q1.out
  rw [rounds_succ]
  go_wp2_with fail
  refine Calls.mono I1.out ?_
  rintro e u1 ⟨rfl, r1, o1⟩
  have M : Hid (Cl u1 q #[.int .i64 (q1 s).1, .int .i64 0, .int .i64 0, .int .i64 0, .int .i64 0] 51) := N1.out.only o1 H12.out
  obtain ⟨c1, f1⟩ := M.out.at 1 rfl
  have N2 : Hid (Cl (u1.setCell ⟨q, 1, none⟩ (.int .i64 (q2 s).1)) q #[.int .i64 (q1 s).1, .int .i64 (q2 s).1, .int .i64 0, .int .i64 0, .int .i64 0] 51) := M.out.set 1 _
  have Q2 : Hid (Rd b (q2 s).2.1 (q2 s).2.2 (u1.setCell ⟨q, 1, none⟩ (.int .i64 (q2 s).1))) := r1.keep (Only.setCell q 1 u1 _) H12.out.symm
  have P2 : Hid (Cl (u1.setCell ⟨q, 1, none⟩ (.int .i64 (q2 s).1)) w.heap.size #[.int .i64 0, .int .i64 0, .int .i64 0, .int .i64 0, .int .i64 0] 23) := (P1.out.only o1 H01.out).only (Only.setCell q 1 u1 _) H02.out
  have B2 : Hid (Below w.heap.size w (u1.setCell ⟨q, 1, none⟩ (.int .i64 (q2 s).1))) := (B1.out.trans (o1.below hl1.out)).trans ((Only.setCell q 1 u1 _).below hl2.out)
  clear r1 o1 I1 M N1 Q1 P1 B1
  go_wp2_with fail
  generalize u1.setCell ⟨q, 1, none⟩ (.int .i64 (q2 s).1) = v2 at *
  clear c1 f1
  have I2 : Hid (Calls Tryd.prog 48 #[.pointer (some ⟨b, 0, none⟩), .int .i64 4] v2 fun r w' => r = .returned (.int .i64 (q3 s).1) ∧ Rd b (q3 s).2.1 (q3 s).2.2 w' ∧ Only b v2 w') := int_any b (q2 s).2.1 (q2 s).2.2 4 v2 Q2.out
  rw [rounds_succ]
  go_wp2_with fail
  refine Calls.mono I2.out ?_
  rintro e u2 ⟨rfl, r2, o2⟩
  have M : Hid (Cl u2 q #[.int .i64 (q1 s).1, .int .i64 (q2 s).1, .int .i64 0, .int .i64 0, .int .i64 0] 51) := N2.out.only o2 H12.out
  obtain ⟨c2, f2⟩ := M.out.at 2 rfl
  have N3 : Hid (Cl (u2.setCell ⟨q, 2, none⟩ (.int .i64 (q3 s).1)) q #[.int .i64 (q1 s).1, .int .i64 (q2 s).1, .int .i64 (q3 s).1, .int .i64 0, .int .i64 0] 51) := M.out.set 2 _
  have Q3 : Hid (Rd b (q3 s).2.1 (q3 s).2.2 (u2.setCell ⟨q, 2, none⟩ (.int .i64 (q3 s).1))) := r2.keep (Only.setCell q 2 u2 _) H12.out.symm
  have P3 : Hid (Cl (u2.setCell ⟨q, 2, none⟩ (.int .i64 (q3 s).1)) w.heap.size #[.int .i64 0, .int .i64 0, .int .i64 0, .int .i64 0, .int .i64 0] 23) := (P2.out.only o2 H01.out).only (Only.setCell q 2 u2 _) H02.out
  have B3 : Hid (Below w.heap.size w (u2.setCell ⟨q, 2, none⟩ (.int .i64 (q3 s).1))) := (B2.out.trans (o2.below hl1.out)).trans ((Only.setCell q 2 u2 _).below hl2.out)
  clear r2 o2 I2 M N2 Q2 P2 B2
  go_wp2_with fail
  generalize u2.setCell ⟨q, 2, none⟩ (.int .i64 (q3 s).1) = v3 at *
  clear c2 f2
  have I3 : Hid (Calls Tryd.prog 48 #[.pointer (some ⟨b, 0, none⟩), .int .i64 4] v3 fun r w' => r = .returned (.int .i64 (q4 s).1) ∧ Rd b (q4 s).2.1 (q4 s).2.2 w' ∧ Only b v3 w') := int_any b (q3 s).2.1 (q3 s).2.2 4 v3 Q3.out
  rw [rounds_succ]
  go_wp2_with fail
  refine Calls.mono I3.out ?_
  rintro e u3 ⟨rfl, r3, o3⟩
  have M : Hid (Cl u3 q #[.int .i64 (q1 s).1, .int .i64 (q2 s).1, .int .i64 (q3 s).1, .int .i64 0, .int .i64 0] 51) := N3.out.only o3 H12.out
  obtain ⟨c3, f3⟩ := M.out.at 3 rfl
  have N4 : Hid (Cl (u3.setCell ⟨q, 3, none⟩ (.int .i64 (q4 s).1)) q #[.int .i64 (q1 s).1, .int .i64 (q2 s).1, .int .i64 (q3 s).1, .int .i64 (q4 s).1, .int .i64 0] 51) := M.out.set 3 _
  have Q4 : Hid (Rd b (q4 s).2.1 (q4 s).2.2 (u3.setCell ⟨q, 3, none⟩ (.int .i64 (q4 s).1))) := r3.keep (Only.setCell q 3 u3 _) H12.out.symm
  have P4 : Hid (Cl (u3.setCell ⟨q, 3, none⟩ (.int .i64 (q4 s).1)) w.heap.size #[.int .i64 0, .int .i64 0, .int .i64 0, .int .i64 0, .int .i64 0] 23) := (P3.out.only o3 H01.out).only (Only.setCell q 3 u3 _) H02.out
  have B4 : Hid (Below w.heap.size w (u3.setCell ⟨q, 3, none⟩ (.int .i64 (q4 s).1))) := (B3.out.trans (o3.below hl1.out)).trans ((Only.setCell q 3 u3 _).below hl2.out)
  clear r3 o3 I3 M N3 Q3 P3 B3
  go_wp2_with fail
  generalize u3.setCell ⟨q, 3, none⟩ (.int .i64 (q4 s).1) = v4 at *
  clear c3 f3
  have I4 : Hid (Calls Tryd.prog 48 #[.pointer (some ⟨b, 0, none⟩), .int .i64 4] v4 fun r w' => r = .returned (.int .i64 (q5 s).1) ∧ Rd b (q5 s).2.1 (q5 s).2.2 w' ∧ Only b v4 w') := int_any b (q4 s).2.1 (q4 s).2.2 4 v4 Q4.out
  rw [rounds_succ]
  go_wp2_with fail
  refine Calls.mono I4.out ?_
  rintro e u4 ⟨rfl, r4, o4⟩
  have M : Hid (Cl u4 q #[.int .i64 (q1 s).1, .int .i64 (q2 s).1, .int .i64 (q3 s).1, .int .i64 (q4 s).1, .int .i64 0] 51) := N4.out.only o4 H12.out
  obtain ⟨c4, f4⟩ := M.out.at 4 rfl
  have N5 : Hid (Cl (u4.setCell ⟨q, 4, none⟩ (.int .i64 (q5 s).1)) q #[.int .i64 (q1 s).1, .int .i64 (q2 s).1, .int .i64 (q3 s).1, .int .i64 (q4 s).1, .int .i64 (q5 s).1] 51) := M.out.set 4 _
  have Q5 : Hid (Rd b (q5 s).2.1 (q5 s).2.2 (u4.setCell ⟨q, 4, none⟩ (.int .i64 (q5 s).1))) := r4.keep (Only.setCell q 4 u4 _) H12.out.symm
  have P5 : Hid (Cl (u4.setCell ⟨q, 4, none⟩ (.int .i64 (q5 s).1)) w.heap.size #[.int .i64 0, .int .i64 0, .int .i64 0, .int .i64 0, .int .i64 0] 23) := (P4.out.only o4 H01.out).only (Only.setCell q 4 u4 _) H02.out
  have B5 : Hid (Below w.heap.size w (u4.setCell ⟨q, 4, none⟩ (.int .i64 (q5 s).1))) := (B4.out.trans (o4.below hl1.out)).trans ((Only.setCell q 4 u4 _).below hl2.out)
  clear r4 o4 I4 M N4 Q4 P4 B4
  go_wp2_with fail
  generalize u4.setCell ⟨q, 4, none⟩ (.int .i64 (q5 s).1) = v5 at *
  clear c4 f4
  rw [rounds_succ]
  obtain ⟨c0, c1, c2, c3, c4⟩ := N5.out.five
  obtain ⟨d0, d1, d2, d3, d4⟩ := P5.out.five
  have g0 := P5.out.frozen 0
  have g1 := P5.out.frozen 1
  have g2 := P5.out.frozen 2
  have g3 := P5.out.frozen 3
  have g4 := P5.out.frozen 4
  have PF : Hid (Cl ((((( v5.setCell ⟨w.heap.size, 0, none⟩ (.int .i64 (q1 s).1)).setCell ⟨w.heap.size, 1, none⟩ (.int .i64 (q2 s).1)).setCell ⟨w.heap.size, 2, none⟩ (.int .i64 (q3 s).1)).setCell ⟨w.heap.size, 3, none⟩ (.int .i64 (q4 s).1)).setCell ⟨w.heap.size, 4, none⟩ (.int .i64 (q5 s).1)) w.heap.size #[.int .i64 (q1 s).1, .int .i64 (q2 s).1, .int .i64 (q3 s).1, .int .i64 (q4 s).1, .int .i64 (q5 s).1] 23) := Cl.set5 P5.out _ _ _ _ _
  have BF : Hid (Below w.heap.size w ((((( v5.setCell ⟨w.heap.size, 0, none⟩ (.int .i64 (q1 s).1)).setCell ⟨w.heap.size, 1, none⟩ (.int .i64 (q2 s).1)).setCell ⟨w.heap.size, 2, none⟩ (.int .i64 (q3 s).1)).setCell ⟨w.heap.size, 3, none⟩ (.int .i64 (q4 s).1)).setCell ⟨w.heap.size, 4, none⟩ (.int .i64 (q5 s).1))) := B5.out.trans ((only_set5 v5 w.heap.size _ _ _ _ _).below (Nat.le_refl _))
  go_wp2
  generalize (((( v5.setCell ⟨w.heap.size, 0, none⟩ (.int .i64 (q1 s).1)).setCell ⟨w.heap.size, 1, none⟩ (.int .i64 (q2 s).1)).setCell ⟨w.heap.size, 2, none⟩ (.int .i64 (q3 s).1)).setCell ⟨w.heap.size, 3, none⟩ (.int .i64 (q4 s).1)).setCell ⟨w.heap.size, 4, none⟩ (.int .i64 (q5 s).1) = v6 at *
  obtain ⟨e0, e1, e2, e3, e4⟩ := PF.out.five
  refine bodyPost_ret (v := .agg #[.int .i64 (q1 s).1, .int .i64 (q2 s).1, .int .i64 (q3 s).1, .int .i64 (q4 s).1, .int .i64 (q5 s).1]) ?_ rfl ⟨rfl, BF.out⟩
  rw [results_cell rfl]
  go_simp

end Go.Proofs.YtalljfckjkbieaaDoor

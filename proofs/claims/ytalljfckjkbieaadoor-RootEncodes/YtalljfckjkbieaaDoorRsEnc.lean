/-
  The walk of rootslot.Encode: a slot's bytes, or refused.
-/
import Derived.Test.YtalljfckjkbieaaDoorRsRead
import Derived.Test.YtalljfckjkbieaaDoorPgSeal
namespace Go.Proofs.YtalljfckjkbieaaDoor
open Go.RowKit

theorem put_ok4 {n : Int} (h : putB 4 n = true) (w : World) : Calls Tryd.prog 23 #[.int .i64 4, .int .i64 n] w fun r w' => r = .returned (.tuple #[.string ⟨(beBytes 4 n.toNat).toArray⟩, .int .i64 0]) ∧ Below w.heap.size w w' := by
  have := put_any 4 n w
  rw [show putS 4 n = beBytes 4 n.toNat by simp [putS, h], show putE 4 n = 0 by simp [putE, h]] at this
  exact this
theorem put_no4 {n : Int} (h : putB 4 n = false) (w : World) : Calls Tryd.prog 23 #[.int .i64 4, .int .i64 n] w fun r w' => r = .returned (.tuple #[.string ⟨#[]⟩, .int .i64 1]) ∧ Below w.heap.size w w' := by
  have := put_any 4 n w
  rw [show putS 4 n = [] by simp [putS, h], show putE 4 n = 1 by simp [putE, h]] at this
  exact this

set_option maxRecDepth 100000 in
set_option maxHeartbeats 400000 in
theorem enc_zero (r : Rt) (w : World) (h : r.ep = 0) : Calls Tryd.prog 10 #[rtV r] w fun e w' => e = .returned (.tuple #[.string ⟨#[]⟩, .int .i64 1]) ∧ Below w.heap.size w w' := by
  obtain ⟨n0, n1, n2, n3, n4⟩ := r
  dsimp only at h
  subst h
  unfold rtV
  dsimp only
  go_enter Tryd.func10, Tryd.ntmps10
  go_wp2
  go_ret2
  exact ⟨rfl, (Below.refl _ _).alloc (Nat.le_refl _) _⟩

set_option maxRecDepth 100000 in
set_option maxHeartbeats 2000000 in
theorem enc_no0 (r : Rt) (w : World) (hz : r.ep ≠ 0)  (h0 : putB 4 r.ep = false) : Calls Tryd.prog 10 #[rtV r] w fun e w' => e = .returned (.tuple #[.string ⟨#[]⟩, .int .i64 1]) ∧ Below w.heap.size w w' := by
  have hne : (r.ep == 0) = false := beq_eq_false_iff_ne.2 hz
  have SP : Hid (∀ u, Calls Tryd.prog 22 #[rtV r] u fun e w' => e = .returned (rtV r) ∧ Below u.heap.size u w') := fun u => split_any r u
  unfold rtV at *
  have K0 : Hid (∀ u, Calls Tryd.prog 23 #[.int .i64 4, .int .i64 r.ep] u fun e w' => e = .returned (.tuple #[.string ⟨#[]⟩, .int .i64 1]) ∧ Below u.heap.size u w') := fun u => put_no4 h0 u
  clear hz h0
  obtain ⟨n0, n1, n2, n3, n4⟩ := r
  dsimp only at *
  have i0 : ∀ w : World, (Instr.index 51 (.agg #[.int .i64 n0, .int .i64 n1, .int .i64 n2, .int .i64 n3, .int .i64 n4]) (.int .i64 0)).run Tryd.prog w = .ok (.int .i64 n0) w := fun _ => by kernel_rfl
  have i1 : ∀ w : World, (Instr.index 51 (.agg #[.int .i64 n0, .int .i64 n1, .int .i64 n2, .int .i64 n3, .int .i64 n4]) (.int .i64 1)).run Tryd.prog w = .ok (.int .i64 n1) w := fun _ => by kernel_rfl
  have i2 : ∀ w : World, (Instr.index 51 (.agg #[.int .i64 n0, .int .i64 n1, .int .i64 n2, .int .i64 n3, .int .i64 n4]) (.int .i64 2)).run Tryd.prog w = .ok (.int .i64 n2) w := fun _ => by kernel_rfl
  have i3 : ∀ w : World, (Instr.index 51 (.agg #[.int .i64 n0, .int .i64 n1, .int .i64 n2, .int .i64 n3, .int .i64 n4]) (.int .i64 3)).run Tryd.prog w = .ok (.int .i64 n3) w := fun _ => by kernel_rfl
  have i4 : ∀ w : World, (Instr.index 51 (.agg #[.int .i64 n0, .int .i64 n1, .int .i64 n2, .int .i64 n3, .int .i64 n4]) (.int .i64 4)).run Tryd.prog w = .ok (.int .i64 n4) w := fun _ => by kernel_rfl
  go_enter Tryd.func10, Tryd.ntmps10
  go_wp2_with fail
  have P0 : Hid (Cl ((w.alloc (.cells #[.int .i64 n0, .int .i64 n1, .int .i64 n2, .int .i64 n3, .int .i64 n4] 23)).alloc (.cells #[.string ⟨#[]⟩, .string ⟨#[]⟩, .string ⟨#[]⟩, .string ⟨#[]⟩, .string ⟨#[]⟩] 50)) (w.heap.size + 1) #[.string ⟨#[]⟩, .string ⟨#[]⟩, .string ⟨#[]⟩, .string ⟨#[]⟩, .string ⟨#[]⟩] 50) := by
    have := Cl.new (w.alloc (.cells #[.int .i64 n0, .int .i64 n1, .int .i64 n2, .int .i64 n3, .int .i64 n4] 23)) #[.string ⟨#[]⟩, .string ⟨#[]⟩, .string ⟨#[]⟩, .string ⟨#[]⟩, .string ⟨#[]⟩] 50
    rw [show (w.alloc (.cells #[.int .i64 n0, .int .i64 n1, .int .i64 n2, .int .i64 n3, .int .i64 n4] 23)).heap.size = w.heap.size + 1 by simp] at this
    exact this
  have A0 : Hid (Below w.heap.size w ((w.alloc (.cells #[.int .i64 n0, .int .i64 n1, .int .i64 n2, .int .i64 n3, .int .i64 n4] 23)).alloc (.cells #[.string ⟨#[]⟩, .string ⟨#[]⟩, .string ⟨#[]⟩, .string ⟨#[]⟩, .string ⟨#[]⟩] 50))) := ((Below.refl _ _).alloc (Nat.le_refl _) _).alloc (by simp) _
  have hl : Hid (w.heap.size ≤ w.heap.size + 1) := Nat.le_succ _
  generalize (w.alloc (.cells #[.int .i64 n0, .int .i64 n1, .int .i64 n2, .int .i64 n3, .int .i64 n4] 23)).alloc (.cells #[.string ⟨#[]⟩, .string ⟨#[]⟩, .string ⟨#[]⟩, .string ⟨#[]⟩, .string ⟨#[]⟩] 50) = z0 at *
  generalize w.heap.size + 1 = p at *
  refine Calls.mono (SP.out _) ?_
  rintro e v0 ⟨rfl, b0⟩
  have N0 : Hid (Cl v0 p #[.string ⟨#[]⟩, .string ⟨#[]⟩, .string ⟨#[]⟩, .string ⟨#[]⟩, .string ⟨#[]⟩] 50) := Cl.on P0.out b0
  have B0 : Hid (Below w.heap.size w v0) := A0.out.trans (b0.mono A0.out.size)
  clear SP P0 A0 b0
  go_wp2_with fail
  refine wp_loop_rounds 6 ?_
  rw [rounds_succ]
  go_wp2_with fail
  refine Calls.mono (K0.out _) ?_
  rintro e u0 ⟨rfl, b0⟩
  have BF : Hid (Below w.heap.size w u0) := B0.out.trans (b0.mono B0.out.size)
  clear b0
  go_wp2
  go_ret2
  exact ⟨rfl, BF.out⟩

set_option maxRecDepth 100000 in
set_option maxHeartbeats 2000000 in
theorem enc_no1 (r : Rt) (w : World) (hz : r.ep ≠ 0) (h0 : putB 4 r.ep = true) (h1 : putB 4 r.pg = false) : Calls Tryd.prog 10 #[rtV r] w fun e w' => e = .returned (.tuple #[.string ⟨#[]⟩, .int .i64 1]) ∧ Below w.heap.size w w' := by
  have hne : (r.ep == 0) = false := beq_eq_false_iff_ne.2 hz
  have SP : Hid (∀ u, Calls Tryd.prog 22 #[rtV r] u fun e w' => e = .returned (rtV r) ∧ Below u.heap.size u w') := fun u => split_any r u
  unfold rtV at *
  have K0 : Hid (∀ u, Calls Tryd.prog 23 #[.int .i64 4, .int .i64 r.ep] u fun e w' => e = .returned (.tuple #[.string ⟨(beBytes 4 r.ep.toNat).toArray⟩, .int .i64 0]) ∧ Below u.heap.size u w') := fun u => put_ok4 h0 u
  have K1 : Hid (∀ u, Calls Tryd.prog 23 #[.int .i64 4, .int .i64 r.pg] u fun e w' => e = .returned (.tuple #[.string ⟨#[]⟩, .int .i64 1]) ∧ Below u.heap.size u w') := fun u => put_no4 h1 u
  clear hz h0 h1
  generalize beBytes 4 r.ep.toNat = X0 at *
  obtain ⟨n0, n1, n2, n3, n4⟩ := r
  dsimp only at *
  have i0 : ∀ w : World, (Instr.index 51 (.agg #[.int .i64 n0, .int .i64 n1, .int .i64 n2, .int .i64 n3, .int .i64 n4]) (.int .i64 0)).run Tryd.prog w = .ok (.int .i64 n0) w := fun _ => by kernel_rfl
  have i1 : ∀ w : World, (Instr.index 51 (.agg #[.int .i64 n0, .int .i64 n1, .int .i64 n2, .int .i64 n3, .int .i64 n4]) (.int .i64 1)).run Tryd.prog w = .ok (.int .i64 n1) w := fun _ => by kernel_rfl
  have i2 : ∀ w : World, (Instr.index 51 (.agg #[.int .i64 n0, .int .i64 n1, .int .i64 n2, .int .i64 n3, .int .i64 n4]) (.int .i64 2)).run Tryd.prog w = .ok (.int .i64 n2) w := fun _ => by kernel_rfl
  have i3 : ∀ w : World, (Instr.index 51 (.agg #[.int .i64 n0, .int .i64 n1, .int .i64 n2, .int .i64 n3, .int .i64 n4]) (.int .i64 3)).run Tryd.prog w = .ok (.int .i64 n3) w := fun _ => by kernel_rfl
  have i4 : ∀ w : World, (Instr.index 51 (.agg #[.int .i64 n0, .int .i64 n1, .int .i64 n2, .int .i64 n3, .int .i64 n4]) (.int .i64 4)).run Tryd.prog w = .ok (.int .i64 n4) w := fun _ => by kernel_rfl
  go_enter Tryd.func10, Tryd.ntmps10
  go_wp2_with fail
  have P0 : Hid (Cl ((w.alloc (.cells #[.int .i64 n0, .int .i64 n1, .int .i64 n2, .int .i64 n3, .int .i64 n4] 23)).alloc (.cells #[.string ⟨#[]⟩, .string ⟨#[]⟩, .string ⟨#[]⟩, .string ⟨#[]⟩, .string ⟨#[]⟩] 50)) (w.heap.size + 1) #[.string ⟨#[]⟩, .string ⟨#[]⟩, .string ⟨#[]⟩, .string ⟨#[]⟩, .string ⟨#[]⟩] 50) := by
    have := Cl.new (w.alloc (.cells #[.int .i64 n0, .int .i64 n1, .int .i64 n2, .int .i64 n3, .int .i64 n4] 23)) #[.string ⟨#[]⟩, .string ⟨#[]⟩, .string ⟨#[]⟩, .string ⟨#[]⟩, .string ⟨#[]⟩] 50
    rw [show (w.alloc (.cells #[.int .i64 n0, .int .i64 n1, .int .i64 n2, .int .i64 n3, .int .i64 n4] 23)).heap.size = w.heap.size + 1 by simp] at this
    exact this
  have A0 : Hid (Below w.heap.size w ((w.alloc (.cells #[.int .i64 n0, .int .i64 n1, .int .i64 n2, .int .i64 n3, .int .i64 n4] 23)).alloc (.cells #[.string ⟨#[]⟩, .string ⟨#[]⟩, .string ⟨#[]⟩, .string ⟨#[]⟩, .string ⟨#[]⟩] 50))) := ((Below.refl _ _).alloc (Nat.le_refl _) _).alloc (by simp) _
  have hl : Hid (w.heap.size ≤ w.heap.size + 1) := Nat.le_succ _
  generalize (w.alloc (.cells #[.int .i64 n0, .int .i64 n1, .int .i64 n2, .int .i64 n3, .int .i64 n4] 23)).alloc (.cells #[.string ⟨#[]⟩, .string ⟨#[]⟩, .string ⟨#[]⟩, .string ⟨#[]⟩, .string ⟨#[]⟩] 50) = z0 at *
  generalize w.heap.size + 1 = p at *
  refine Calls.mono (SP.out _) ?_
  rintro e v0 ⟨rfl, b0⟩
  have N0 : Hid (Cl v0 p #[.string ⟨#[]⟩, .string ⟨#[]⟩, .string ⟨#[]⟩, .string ⟨#[]⟩, .string ⟨#[]⟩] 50) := Cl.on P0.out b0
  have B0 : Hid (Below w.heap.size w v0) := A0.out.trans (b0.mono A0.out.size)
  clear SP P0 A0 b0
  go_wp2_with fail
  refine wp_loop_rounds 6 ?_
  rw [rounds_succ]
  go_wp2_with fail
  refine Calls.mono (K0.out _) ?_
  rintro e u0 ⟨rfl, b0⟩
  have M : Hid (Cl u0 p #[.string ⟨#[]⟩, .string ⟨#[]⟩, .string ⟨#[]⟩, .string ⟨#[]⟩, .string ⟨#[]⟩] 50) := Cl.on N0.out b0
  obtain ⟨c0, f0⟩ := M.out.at 0 rfl
  have N1 : Hid (Cl (u0.setCell ⟨p, 0, none⟩ (.string ⟨X0.toArray⟩)) p #[.string ⟨X0.toArray⟩, .string ⟨#[]⟩, .string ⟨#[]⟩, .string ⟨#[]⟩, .string ⟨#[]⟩] 50) := M.out.set 0 _
  have B1 : Hid (Below w.heap.size w (u0.setCell ⟨p, 0, none⟩ (.string ⟨X0.toArray⟩))) := (B0.out.trans (b0.mono B0.out.size)).trans ((Only.setCell p 0 u0 _).below hl.out)
  clear b0 K0 M N0 B0
  go_wp2_with fail
  generalize u0.setCell ⟨p, 0, none⟩ (.string ⟨X0.toArray⟩) = v1 at *
  clear c0 f0
  rw [rounds_succ]
  go_wp2_with fail
  refine Calls.mono (K1.out _) ?_
  rintro e u1 ⟨rfl, b1⟩
  have BF : Hid (Below w.heap.size w u1) := B1.out.trans (b1.mono B1.out.size)
  clear b1
  go_wp2
  go_ret2
  exact ⟨rfl, BF.out⟩

set_option maxRecDepth 100000 in
set_option maxHeartbeats 2000000 in
theorem enc_no2 (r : Rt) (w : World) (hz : r.ep ≠ 0) (h0 : putB 4 r.ep = true) (h1 : putB 4 r.pg = true) (h2 : putB 4 r.ct = false) : Calls Tryd.prog 10 #[rtV r] w fun e w' => e = .returned (.tuple #[.string ⟨#[]⟩, .int .i64 1]) ∧ Below w.heap.size w w' := by
  have hne : (r.ep == 0) = false := beq_eq_false_iff_ne.2 hz
  have SP : Hid (∀ u, Calls Tryd.prog 22 #[rtV r] u fun e w' => e = .returned (rtV r) ∧ Below u.heap.size u w') := fun u => split_any r u
  unfold rtV at *
  have K0 : Hid (∀ u, Calls Tryd.prog 23 #[.int .i64 4, .int .i64 r.ep] u fun e w' => e = .returned (.tuple #[.string ⟨(beBytes 4 r.ep.toNat).toArray⟩, .int .i64 0]) ∧ Below u.heap.size u w') := fun u => put_ok4 h0 u
  have K1 : Hid (∀ u, Calls Tryd.prog 23 #[.int .i64 4, .int .i64 r.pg] u fun e w' => e = .returned (.tuple #[.string ⟨(beBytes 4 r.pg.toNat).toArray⟩, .int .i64 0]) ∧ Below u.heap.size u w') := fun u => put_ok4 h1 u
  have K2 : Hid (∀ u, Calls Tryd.prog 23 #[.int .i64 4, .int .i64 r.ct] u fun e w' => e = .returned (.tuple #[.string ⟨#[]⟩, .int .i64 1]) ∧ Below u.heap.size u w') := fun u => put_no4 h2 u
  clear hz h0 h1 h2
  generalize beBytes 4 r.ep.toNat = X0 at *
  generalize beBytes 4 r.pg.toNat = X1 at *
  obtain ⟨n0, n1, n2, n3, n4⟩ := r
  dsimp only at *
  have i0 : ∀ w : World, (Instr.index 51 (.agg #[.int .i64 n0, .int .i64 n1, .int .i64 n2, .int .i64 n3, .int .i64 n4]) (.int .i64 0)).run Tryd.prog w = .ok (.int .i64 n0) w := fun _ => by kernel_rfl
  have i1 : ∀ w : World, (Instr.index 51 (.agg #[.int .i64 n0, .int .i64 n1, .int .i64 n2, .int .i64 n3, .int .i64 n4]) (.int .i64 1)).run Tryd.prog w = .ok (.int .i64 n1) w := fun _ => by kernel_rfl
  have i2 : ∀ w : World, (Instr.index 51 (.agg #[.int .i64 n0, .int .i64 n1, .int .i64 n2, .int .i64 n3, .int .i64 n4]) (.int .i64 2)).run Tryd.prog w = .ok (.int .i64 n2) w := fun _ => by kernel_rfl
  have i3 : ∀ w : World, (Instr.index 51 (.agg #[.int .i64 n0, .int .i64 n1, .int .i64 n2, .int .i64 n3, .int .i64 n4]) (.int .i64 3)).run Tryd.prog w = .ok (.int .i64 n3) w := fun _ => by kernel_rfl
  have i4 : ∀ w : World, (Instr.index 51 (.agg #[.int .i64 n0, .int .i64 n1, .int .i64 n2, .int .i64 n3, .int .i64 n4]) (.int .i64 4)).run Tryd.prog w = .ok (.int .i64 n4) w := fun _ => by kernel_rfl
  go_enter Tryd.func10, Tryd.ntmps10
  go_wp2_with fail
  have P0 : Hid (Cl ((w.alloc (.cells #[.int .i64 n0, .int .i64 n1, .int .i64 n2, .int .i64 n3, .int .i64 n4] 23)).alloc (.cells #[.string ⟨#[]⟩, .string ⟨#[]⟩, .string ⟨#[]⟩, .string ⟨#[]⟩, .string ⟨#[]⟩] 50)) (w.heap.size + 1) #[.string ⟨#[]⟩, .string ⟨#[]⟩, .string ⟨#[]⟩, .string ⟨#[]⟩, .string ⟨#[]⟩] 50) := by
    have := Cl.new (w.alloc (.cells #[.int .i64 n0, .int .i64 n1, .int .i64 n2, .int .i64 n3, .int .i64 n4] 23)) #[.string ⟨#[]⟩, .string ⟨#[]⟩, .string ⟨#[]⟩, .string ⟨#[]⟩, .string ⟨#[]⟩] 50
    rw [show (w.alloc (.cells #[.int .i64 n0, .int .i64 n1, .int .i64 n2, .int .i64 n3, .int .i64 n4] 23)).heap.size = w.heap.size + 1 by simp] at this
    exact this
  have A0 : Hid (Below w.heap.size w ((w.alloc (.cells #[.int .i64 n0, .int .i64 n1, .int .i64 n2, .int .i64 n3, .int .i64 n4] 23)).alloc (.cells #[.string ⟨#[]⟩, .string ⟨#[]⟩, .string ⟨#[]⟩, .string ⟨#[]⟩, .string ⟨#[]⟩] 50))) := ((Below.refl _ _).alloc (Nat.le_refl _) _).alloc (by simp) _
  have hl : Hid (w.heap.size ≤ w.heap.size + 1) := Nat.le_succ _
  generalize (w.alloc (.cells #[.int .i64 n0, .int .i64 n1, .int .i64 n2, .int .i64 n3, .int .i64 n4] 23)).alloc (.cells #[.string ⟨#[]⟩, .string ⟨#[]⟩, .string ⟨#[]⟩, .string ⟨#[]⟩, .string ⟨#[]⟩] 50) = z0 at *
  generalize w.heap.size + 1 = p at *
  refine Calls.mono (SP.out _) ?_
  rintro e v0 ⟨rfl, b0⟩
  have N0 : Hid (Cl v0 p #[.string ⟨#[]⟩, .string ⟨#[]⟩, .string ⟨#[]⟩, .string ⟨#[]⟩, .string ⟨#[]⟩] 50) := Cl.on P0.out b0
  have B0 : Hid (Below w.heap.size w v0) := A0.out.trans (b0.mono A0.out.size)
  clear SP P0 A0 b0
  go_wp2_with fail
  refine wp_loop_rounds 6 ?_
  rw [rounds_succ]
  go_wp2_with fail
  refine Calls.mono (K0.out _) ?_
  rintro e u0 ⟨rfl, b0⟩
  have M : Hid (Cl u0 p #[.string ⟨#[]⟩, .string ⟨#[]⟩, .string ⟨#[]⟩, .string ⟨#[]⟩, .string ⟨#[]⟩] 50) := Cl.on N0.out b0
  obtain ⟨c0, f0⟩ := M.out.at 0 rfl
  have N1 : Hid (Cl (u0.setCell ⟨p, 0, none⟩ (.string ⟨X0.toArray⟩)) p #[.string ⟨X0.toArray⟩, .string ⟨#[]⟩, .string ⟨#[]⟩, .string ⟨#[]⟩, .string ⟨#[]⟩] 50) := M.out.set 0 _
  have B1 : Hid (Below w.heap.size w (u0.setCell ⟨p, 0, none⟩ (.string ⟨X0.toArray⟩))) := (B0.out.trans (b0.mono B0.out.size)).trans ((Only.setCell p 0 u0 _).below hl.out)
  clear b0 K0 M N0 B0
  go_wp2_with fail
  generalize u0.setCell ⟨p, 0, none⟩ (.string ⟨X0.toArray⟩) = v1 at *
  clear c0 f0
  rw [rounds_succ]
  go_wp2_with fail
  refine Calls.mono (K1.out _) ?_
  rintro e u1 ⟨rfl, b1⟩
  have M : Hid (Cl u1 p #[.string ⟨X0.toArray⟩, .string ⟨#[]⟩, .string ⟨#[]⟩, .string ⟨#[]⟩, .string ⟨#[]⟩] 50) := Cl.on N1.out b1
  obtain ⟨c1, f1⟩ := M.out.at 1 rfl
  have N2 : Hid (Cl (u1.setCell ⟨p, 1, none⟩ (.string ⟨X1.toArray⟩)) p #[.string ⟨X0.toArray⟩, .string ⟨X1.toArray⟩, .string ⟨#[]⟩, .string ⟨#[]⟩, .string ⟨#[]⟩] 50) := M.out.set 1 _
  have B2 : Hid (Below w.heap.size w (u1.setCell ⟨p, 1, none⟩ (.string ⟨X1.toArray⟩))) := (B1.out.trans (b1.mono B1.out.size)).trans ((Only.setCell p 1 u1 _).below hl.out)
  clear b1 K1 M N1 B1
  go_wp2_with fail
  generalize u1.setCell ⟨p, 1, none⟩ (.string ⟨X1.toArray⟩) = v2 at *
  clear c1 f1
  rw [rounds_succ]
  go_wp2_with fail
  refine Calls.mono (K2.out _) ?_
  rintro e u2 ⟨rfl, b2⟩
  have BF : Hid (Below w.heap.size w u2) := B2.out.trans (b2.mono B2.out.size)
  clear b2
  go_wp2
  go_ret2
  exact ⟨rfl, BF.out⟩

set_option maxRecDepth 100000 in
set_option maxHeartbeats 2000000 in
theorem enc_no3 (r : Rt) (w : World) (hz : r.ep ≠ 0) (h0 : putB 4 r.ep = true) (h1 : putB 4 r.pg = true) (h2 : putB 4 r.ct = true) (h3 : putB 4 r.fr = false) : Calls Tryd.prog 10 #[rtV r] w fun e w' => e = .returned (.tuple #[.string ⟨#[]⟩, .int .i64 1]) ∧ Below w.heap.size w w' := by
  have hne : (r.ep == 0) = false := beq_eq_false_iff_ne.2 hz
  have SP : Hid (∀ u, Calls Tryd.prog 22 #[rtV r] u fun e w' => e = .returned (rtV r) ∧ Below u.heap.size u w') := fun u => split_any r u
  unfold rtV at *
  have K0 : Hid (∀ u, Calls Tryd.prog 23 #[.int .i64 4, .int .i64 r.ep] u fun e w' => e = .returned (.tuple #[.string ⟨(beBytes 4 r.ep.toNat).toArray⟩, .int .i64 0]) ∧ Below u.heap.size u w') := fun u => put_ok4 h0 u
  have K1 : Hid (∀ u, Calls Tryd.prog 23 #[.int .i64 4, .int .i64 r.pg] u fun e w' => e = .returned (.tuple #[.string ⟨(beBytes 4 r.pg.toNat).toArray⟩, .int .i64 0]) ∧ Below u.heap.size u w') := fun u => put_ok4 h1 u
  have K2 : Hid (∀ u, Calls Tryd.prog 23 #[.int .i64 4, .int .i64 r.ct] u fun e w' => e = .returned (.tuple #[.string ⟨(beBytes 4 r.ct.toNat).toArray⟩, .int .i64 0]) ∧ Below u.heap.size u w') := fun u => put_ok4 h2 u
  have K3 : Hid (∀ u, Calls Tryd.prog 23 #[.int .i64 4, .int .i64 r.fr] u fun e w' => e = .returned (.tuple #[.string ⟨#[]⟩, .int .i64 1]) ∧ Below u.heap.size u w') := fun u => put_no4 h3 u
  clear hz h0 h1 h2 h3
  generalize beBytes 4 r.ep.toNat = X0 at *
  generalize beBytes 4 r.pg.toNat = X1 at *
  generalize beBytes 4 r.ct.toNat = X2 at *
  obtain ⟨n0, n1, n2, n3, n4⟩ := r
  dsimp only at *
  have i0 : ∀ w : World, (Instr.index 51 (.agg #[.int .i64 n0, .int .i64 n1, .int .i64 n2, .int .i64 n3, .int .i64 n4]) (.int .i64 0)).run Tryd.prog w = .ok (.int .i64 n0) w := fun _ => by kernel_rfl
  have i1 : ∀ w : World, (Instr.index 51 (.agg #[.int .i64 n0, .int .i64 n1, .int .i64 n2, .int .i64 n3, .int .i64 n4]) (.int .i64 1)).run Tryd.prog w = .ok (.int .i64 n1) w := fun _ => by kernel_rfl
  have i2 : ∀ w : World, (Instr.index 51 (.agg #[.int .i64 n0, .int .i64 n1, .int .i64 n2, .int .i64 n3, .int .i64 n4]) (.int .i64 2)).run Tryd.prog w = .ok (.int .i64 n2) w := fun _ => by kernel_rfl
  have i3 : ∀ w : World, (Instr.index 51 (.agg #[.int .i64 n0, .int .i64 n1, .int .i64 n2, .int .i64 n3, .int .i64 n4]) (.int .i64 3)).run Tryd.prog w = .ok (.int .i64 n3) w := fun _ => by kernel_rfl
  have i4 : ∀ w : World, (Instr.index 51 (.agg #[.int .i64 n0, .int .i64 n1, .int .i64 n2, .int .i64 n3, .int .i64 n4]) (.int .i64 4)).run Tryd.prog w = .ok (.int .i64 n4) w := fun _ => by kernel_rfl
  go_enter Tryd.func10, Tryd.ntmps10
  go_wp2_with fail
  have P0 : Hid (Cl ((w.alloc (.cells #[.int .i64 n0, .int .i64 n1, .int .i64 n2, .int .i64 n3, .int .i64 n4] 23)).alloc (.cells #[.string ⟨#[]⟩, .string ⟨#[]⟩, .string ⟨#[]⟩, .string ⟨#[]⟩, .string ⟨#[]⟩] 50)) (w.heap.size + 1) #[.string ⟨#[]⟩, .string ⟨#[]⟩, .string ⟨#[]⟩, .string ⟨#[]⟩, .string ⟨#[]⟩] 50) := by
    have := Cl.new (w.alloc (.cells #[.int .i64 n0, .int .i64 n1, .int .i64 n2, .int .i64 n3, .int .i64 n4] 23)) #[.string ⟨#[]⟩, .string ⟨#[]⟩, .string ⟨#[]⟩, .string ⟨#[]⟩, .string ⟨#[]⟩] 50
    rw [show (w.alloc (.cells #[.int .i64 n0, .int .i64 n1, .int .i64 n2, .int .i64 n3, .int .i64 n4] 23)).heap.size = w.heap.size + 1 by simp] at this
    exact this
  have A0 : Hid (Below w.heap.size w ((w.alloc (.cells #[.int .i64 n0, .int .i64 n1, .int .i64 n2, .int .i64 n3, .int .i64 n4] 23)).alloc (.cells #[.string ⟨#[]⟩, .string ⟨#[]⟩, .string ⟨#[]⟩, .string ⟨#[]⟩, .string ⟨#[]⟩] 50))) := ((Below.refl _ _).alloc (Nat.le_refl _) _).alloc (by simp) _
  have hl : Hid (w.heap.size ≤ w.heap.size + 1) := Nat.le_succ _
  generalize (w.alloc (.cells #[.int .i64 n0, .int .i64 n1, .int .i64 n2, .int .i64 n3, .int .i64 n4] 23)).alloc (.cells #[.string ⟨#[]⟩, .string ⟨#[]⟩, .string ⟨#[]⟩, .string ⟨#[]⟩, .string ⟨#[]⟩] 50) = z0 at *
  generalize w.heap.size + 1 = p at *
  refine Calls.mono (SP.out _) ?_
  rintro e v0 ⟨rfl, b0⟩
  have N0 : Hid (Cl v0 p #[.string ⟨#[]⟩, .string ⟨#[]⟩, .string ⟨#[]⟩, .string ⟨#[]⟩, .string ⟨#[]⟩] 50) := Cl.on P0.out b0
  have B0 : Hid (Below w.heap.size w v0) := A0.out.trans (b0.mono A0.out.size)
  clear SP P0 A0 b0
  go_wp2_with fail
  refine wp_loop_rounds 6 ?_
  rw [rounds_succ]
  go_wp2_with fail
  refine Calls.mono (K0.out _) ?_
  rintro e u0 ⟨rfl, b0⟩
  have M : Hid (Cl u0 p #[.string ⟨#[]⟩, .string ⟨#[]⟩, .string ⟨#[]⟩, .string ⟨#[]⟩, .string ⟨#[]⟩] 50) := Cl.on N0.out b0
  obtain ⟨c0, f0⟩ := M.out.at 0 rfl
  have N1 : Hid (Cl (u0.setCell ⟨p, 0, none⟩ (.string ⟨X0.toArray⟩)) p #[.string ⟨X0.toArray⟩, .string ⟨#[]⟩, .string ⟨#[]⟩, .string ⟨#[]⟩, .string ⟨#[]⟩] 50) := M.out.set 0 _
  have B1 : Hid (Below w.heap.size w (u0.setCell ⟨p, 0, none⟩ (.string ⟨X0.toArray⟩))) := (B0.out.trans (b0.mono B0.out.size)).trans ((Only.setCell p 0 u0 _).below hl.out)
  clear b0 K0 M N0 B0
  go_wp2_with fail
  generalize u0.setCell ⟨p, 0, none⟩ (.string ⟨X0.toArray⟩) = v1 at *
  clear c0 f0
  rw [rounds_succ]
  go_wp2_with fail
  refine Calls.mono (K1.out _) ?_
  rintro e u1 ⟨rfl, b1⟩
  have M : Hid (Cl u1 p #[.string ⟨X0.toArray⟩, .string ⟨#[]⟩, .string ⟨#[]⟩, .string ⟨#[]⟩, .string ⟨#[]⟩] 50) := Cl.on N1.out b1
  obtain ⟨c1, f1⟩ := M.out.at 1 rfl
  have N2 : Hid (Cl (u1.setCell ⟨p, 1, none⟩ (.string ⟨X1.toArray⟩)) p #[.string ⟨X0.toArray⟩, .string ⟨X1.toArray⟩, .string ⟨#[]⟩, .string ⟨#[]⟩, .string ⟨#[]⟩] 50) := M.out.set 1 _
  have B2 : Hid (Below w.heap.size w (u1.setCell ⟨p, 1, none⟩ (.string ⟨X1.toArray⟩))) := (B1.out.trans (b1.mono B1.out.size)).trans ((Only.setCell p 1 u1 _).below hl.out)
  clear b1 K1 M N1 B1
  go_wp2_with fail
  generalize u1.setCell ⟨p, 1, none⟩ (.string ⟨X1.toArray⟩) = v2 at *
  clear c1 f1
  rw [rounds_succ]
  go_wp2_with fail
  refine Calls.mono (K2.out _) ?_
  rintro e u2 ⟨rfl, b2⟩
  have M : Hid (Cl u2 p #[.string ⟨X0.toArray⟩, .string ⟨X1.toArray⟩, .string ⟨#[]⟩, .string ⟨#[]⟩, .string ⟨#[]⟩] 50) := Cl.on N2.out b2
  obtain ⟨c2, f2⟩ := M.out.at 2 rfl
  have N3 : Hid (Cl (u2.setCell ⟨p, 2, none⟩ (.string ⟨X2.toArray⟩)) p #[.string ⟨X0.toArray⟩, .string ⟨X1.toArray⟩, .string ⟨X2.toArray⟩, .string ⟨#[]⟩, .string ⟨#[]⟩] 50) := M.out.set 2 _
  have B3 : Hid (Below w.heap.size w (u2.setCell ⟨p, 2, none⟩ (.string ⟨X2.toArray⟩))) := (B2.out.trans (b2.mono B2.out.size)).trans ((Only.setCell p 2 u2 _).below hl.out)
  clear b2 K2 M N2 B2
  go_wp2_with fail
  generalize u2.setCell ⟨p, 2, none⟩ (.string ⟨X2.toArray⟩) = v3 at *
  clear c2 f2
  rw [rounds_succ]
  go_wp2_with fail
  refine Calls.mono (K3.out _) ?_
  rintro e u3 ⟨rfl, b3⟩
  have BF : Hid (Below w.heap.size w u3) := B3.out.trans (b3.mono B3.out.size)
  clear b3
  go_wp2
  go_ret2
  exact ⟨rfl, BF.out⟩

set_option maxRecDepth 100000 in
set_option maxHeartbeats 2000000 in
theorem enc_no4 (r : Rt) (w : World) (hz : r.ep ≠ 0) (h0 : putB 4 r.ep = true) (h1 : putB 4 r.pg = true) (h2 : putB 4 r.ct = true) (h3 : putB 4 r.fr = true) (h4 : putB 4 r.nx = false) : Calls Tryd.prog 10 #[rtV r] w fun e w' => e = .returned (.tuple #[.string ⟨#[]⟩, .int .i64 1]) ∧ Below w.heap.size w w' := by
  have hne : (r.ep == 0) = false := beq_eq_false_iff_ne.2 hz
  have SP : Hid (∀ u, Calls Tryd.prog 22 #[rtV r] u fun e w' => e = .returned (rtV r) ∧ Below u.heap.size u w') := fun u => split_any r u
  unfold rtV at *
  have K0 : Hid (∀ u, Calls Tryd.prog 23 #[.int .i64 4, .int .i64 r.ep] u fun e w' => e = .returned (.tuple #[.string ⟨(beBytes 4 r.ep.toNat).toArray⟩, .int .i64 0]) ∧ Below u.heap.size u w') := fun u => put_ok4 h0 u
  have K1 : Hid (∀ u, Calls Tryd.prog 23 #[.int .i64 4, .int .i64 r.pg] u fun e w' => e = .returned (.tuple #[.string ⟨(beBytes 4 r.pg.toNat).toArray⟩, .int .i64 0]) ∧ Below u.heap.size u w') := fun u => put_ok4 h1 u
  have K2 : Hid (∀ u, Calls Tryd.prog 23 #[.int .i64 4, .int .i64 r.ct] u fun e w' => e = .returned (.tuple #[.string ⟨(beBytes 4 r.ct.toNat).toArray⟩, .int .i64 0]) ∧ Below u.heap.size u w') := fun u => put_ok4 h2 u
  have K3 : Hid (∀ u, Calls Tryd.prog 23 #[.int .i64 4, .int .i64 r.fr] u fun e w' => e = .returned (.tuple #[.string ⟨(beBytes 4 r.fr.toNat).toArray⟩, .int .i64 0]) ∧ Below u.heap.size u w') := fun u => put_ok4 h3 u
  have K4 : Hid (∀ u, Calls Tryd.prog 23 #[.int .i64 4, .int .i64 r.nx] u fun e w' => e = .returned (.tuple #[.string ⟨#[]⟩, .int .i64 1]) ∧ Below u.heap.size u w') := fun u => put_no4 h4 u
  clear hz h0 h1 h2 h3 h4
  generalize beBytes 4 r.ep.toNat = X0 at *
  generalize beBytes 4 r.pg.toNat = X1 at *
  generalize beBytes 4 r.ct.toNat = X2 at *
  generalize beBytes 4 r.fr.toNat = X3 at *
  obtain ⟨n0, n1, n2, n3, n4⟩ := r
  dsimp only at *
  have i0 : ∀ w : World, (Instr.index 51 (.agg #[.int .i64 n0, .int .i64 n1, .int .i64 n2, .int .i64 n3, .int .i64 n4]) (.int .i64 0)).run Tryd.prog w = .ok (.int .i64 n0) w := fun _ => by kernel_rfl
  have i1 : ∀ w : World, (Instr.index 51 (.agg #[.int .i64 n0, .int .i64 n1, .int .i64 n2, .int .i64 n3, .int .i64 n4]) (.int .i64 1)).run Tryd.prog w = .ok (.int .i64 n1) w := fun _ => by kernel_rfl
  have i2 : ∀ w : World, (Instr.index 51 (.agg #[.int .i64 n0, .int .i64 n1, .int .i64 n2, .int .i64 n3, .int .i64 n4]) (.int .i64 2)).run Tryd.prog w = .ok (.int .i64 n2) w := fun _ => by kernel_rfl
  have i3 : ∀ w : World, (Instr.index 51 (.agg #[.int .i64 n0, .int .i64 n1, .int .i64 n2, .int .i64 n3, .int .i64 n4]) (.int .i64 3)).run Tryd.prog w = .ok (.int .i64 n3) w := fun _ => by kernel_rfl
  have i4 : ∀ w : World, (Instr.index 51 (.agg #[.int .i64 n0, .int .i64 n1, .int .i64 n2, .int .i64 n3, .int .i64 n4]) (.int .i64 4)).run Tryd.prog w = .ok (.int .i64 n4) w := fun _ => by kernel_rfl
  go_enter Tryd.func10, Tryd.ntmps10
  go_wp2_with fail
  have P0 : Hid (Cl ((w.alloc (.cells #[.int .i64 n0, .int .i64 n1, .int .i64 n2, .int .i64 n3, .int .i64 n4] 23)).alloc (.cells #[.string ⟨#[]⟩, .string ⟨#[]⟩, .string ⟨#[]⟩, .string ⟨#[]⟩, .string ⟨#[]⟩] 50)) (w.heap.size + 1) #[.string ⟨#[]⟩, .string ⟨#[]⟩, .string ⟨#[]⟩, .string ⟨#[]⟩, .string ⟨#[]⟩] 50) := by
    have := Cl.new (w.alloc (.cells #[.int .i64 n0, .int .i64 n1, .int .i64 n2, .int .i64 n3, .int .i64 n4] 23)) #[.string ⟨#[]⟩, .string ⟨#[]⟩, .string ⟨#[]⟩, .string ⟨#[]⟩, .string ⟨#[]⟩] 50
    rw [show (w.alloc (.cells #[.int .i64 n0, .int .i64 n1, .int .i64 n2, .int .i64 n3, .int .i64 n4] 23)).heap.size = w.heap.size + 1 by simp] at this
    exact this
  have A0 : Hid (Below w.heap.size w ((w.alloc (.cells #[.int .i64 n0, .int .i64 n1, .int .i64 n2, .int .i64 n3, .int .i64 n4] 23)).alloc (.cells #[.string ⟨#[]⟩, .string ⟨#[]⟩, .string ⟨#[]⟩, .string ⟨#[]⟩, .string ⟨#[]⟩] 50))) := ((Below.refl _ _).alloc (Nat.le_refl _) _).alloc (by simp) _
  have hl : Hid (w.heap.size ≤ w.heap.size + 1) := Nat.le_succ _
  generalize (w.alloc (.cells #[.int .i64 n0, .int .i64 n1, .int .i64 n2, .int .i64 n3, .int .i64 n4] 23)).alloc (.cells #[.string ⟨#[]⟩, .string ⟨#[]⟩, .string ⟨#[]⟩, .string ⟨#[]⟩, .string ⟨#[]⟩] 50) = z0 at *
  generalize w.heap.size + 1 = p at *
  refine Calls.mono (SP.out _) ?_
  rintro e v0 ⟨rfl, b0⟩
  have N0 : Hid (Cl v0 p #[.string ⟨#[]⟩, .string ⟨#[]⟩, .string ⟨#[]⟩, .string ⟨#[]⟩, .string ⟨#[]⟩] 50) := Cl.on P0.out b0
  have B0 : Hid (Below w.heap.size w v0) := A0.out.trans (b0.mono A0.out.size)
  clear SP P0 A0 b0
  go_wp2_with fail
  refine wp_loop_rounds 6 ?_
  rw [rounds_succ]
  go_wp2_with fail
  refine Calls.mono (K0.out _) ?_
  rintro e u0 ⟨rfl, b0⟩
  have M : Hid (Cl u0 p #[.string ⟨#[]⟩, .string ⟨#[]⟩, .string ⟨#[]⟩, .string ⟨#[]⟩, .string ⟨#[]⟩] 50) := Cl.on N0.out b0
  obtain ⟨c0, f0⟩ := M.out.at 0 rfl
  have N1 : Hid (Cl (u0.setCell ⟨p, 0, none⟩ (.string ⟨X0.toArray⟩)) p #[.string ⟨X0.toArray⟩, .string ⟨#[]⟩, .string ⟨#[]⟩, .string ⟨#[]⟩, .string ⟨#[]⟩] 50) := M.out.set 0 _
  have B1 : Hid (Below w.heap.size w (u0.setCell ⟨p, 0, none⟩ (.string ⟨X0.toArray⟩))) := (B0.out.trans (b0.mono B0.out.size)).trans ((Only.setCell p 0 u0 _).below hl.out)
  clear b0 K0 M N0 B0
  go_wp2_with fail
  generalize u0.setCell ⟨p, 0, none⟩ (.string ⟨X0.toArray⟩) = v1 at *
  clear c0 f0
  rw [rounds_succ]
  go_wp2_with fail
  refine Calls.mono (K1.out _) ?_
  rintro e u1 ⟨rfl, b1⟩
  have M : Hid (Cl u1 p #[.string ⟨X0.toArray⟩, .string ⟨#[]⟩, .string ⟨#[]⟩, .string ⟨#[]⟩, .string ⟨#[]⟩] 50) := Cl.on N1.out b1
  obtain ⟨c1, f1⟩ := M.out.at 1 rfl
  have N2 : Hid (Cl (u1.setCell ⟨p, 1, none⟩ (.string ⟨X1.toArray⟩)) p #[.string ⟨X0.toArray⟩, .string ⟨X1.toArray⟩, .string ⟨#[]⟩, .string ⟨#[]⟩, .string ⟨#[]⟩] 50) := M.out.set 1 _
  have B2 : Hid (Below w.heap.size w (u1.setCell ⟨p, 1, none⟩ (.string ⟨X1.toArray⟩))) := (B1.out.trans (b1.mono B1.out.size)).trans ((Only.setCell p 1 u1 _).below hl.out)
  clear b1 K1 M N1 B1
  go_wp2_with fail
  generalize u1.setCell ⟨p, 1, none⟩ (.string ⟨X1.toArray⟩) = v2 at *
  clear c1 f1
  rw [rounds_succ]
  go_wp2_with fail
  refine Calls.mono (K2.out _) ?_
  rintro e u2 ⟨rfl, b2⟩
  have M : Hid (Cl u2 p #[.string ⟨X0.toArray⟩, .string ⟨X1.toArray⟩, .string ⟨#[]⟩, .string ⟨#[]⟩, .string ⟨#[]⟩] 50) := Cl.on N2.out b2
  obtain ⟨c2, f2⟩ := M.out.at 2 rfl
  have N3 : Hid (Cl (u2.setCell ⟨p, 2, none⟩ (.string ⟨X2.toArray⟩)) p #[.string ⟨X0.toArray⟩, .string ⟨X1.toArray⟩, .string ⟨X2.toArray⟩, .string ⟨#[]⟩, .string ⟨#[]⟩] 50) := M.out.set 2 _
  have B3 : Hid (Below w.heap.size w (u2.setCell ⟨p, 2, none⟩ (.string ⟨X2.toArray⟩))) := (B2.out.trans (b2.mono B2.out.size)).trans ((Only.setCell p 2 u2 _).below hl.out)
  clear b2 K2 M N2 B2
  go_wp2_with fail
  generalize u2.setCell ⟨p, 2, none⟩ (.string ⟨X2.toArray⟩) = v3 at *
  clear c2 f2
  rw [rounds_succ]
  go_wp2_with fail
  refine Calls.mono (K3.out _) ?_
  rintro e u3 ⟨rfl, b3⟩
  have M : Hid (Cl u3 p #[.string ⟨X0.toArray⟩, .string ⟨X1.toArray⟩, .string ⟨X2.toArray⟩, .string ⟨#[]⟩, .string ⟨#[]⟩] 50) := Cl.on N3.out b3
  obtain ⟨c3, f3⟩ := M.out.at 3 rfl
  have N4 : Hid (Cl (u3.setCell ⟨p, 3, none⟩ (.string ⟨X3.toArray⟩)) p #[.string ⟨X0.toArray⟩, .string ⟨X1.toArray⟩, .string ⟨X2.toArray⟩, .string ⟨X3.toArray⟩, .string ⟨#[]⟩] 50) := M.out.set 3 _
  have B4 : Hid (Below w.heap.size w (u3.setCell ⟨p, 3, none⟩ (.string ⟨X3.toArray⟩))) := (B3.out.trans (b3.mono B3.out.size)).trans ((Only.setCell p 3 u3 _).below hl.out)
  clear b3 K3 M N3 B3
  go_wp2_with fail
  generalize u3.setCell ⟨p, 3, none⟩ (.string ⟨X3.toArray⟩) = v4 at *
  clear c3 f3
  rw [rounds_succ]
  go_wp2_with fail
  refine Calls.mono (K4.out _) ?_
  rintro e u4 ⟨rfl, b4⟩
  have BF : Hid (Below w.heap.size w u4) := B4.out.trans (b4.mono B4.out.size)
  clear b4
  go_wp2
  go_ret2
  exact ⟨rfl, BF.out⟩

set_option maxRecDepth 100000 in
set_option maxHeartbeats 2000000 in
theorem enc_ok (r : Rt) (w : World) (T : Tab w) (hz : r.ep ≠ 0) (h0 : putB 4 r.ep = true) (h1 : putB 4 r.pg = true) (h2 : putB 4 r.ct = true) (h3 : putB 4 r.fr = true) (h4 : putB 4 r.nx = true) : Calls Tryd.prog 10 #[rtV r] w fun e w' => e = .returned (.tuple #[.string ⟨(slotL r).toArray⟩, .int .i64 0]) ∧ Below w.heap.size w w' := by
  have hne : (r.ep == 0) = false := beq_eq_false_iff_ne.2 hz
  have TAB : Hid (Tab w) := T
  have EH : Hid (cat [⟨(beBytes 4 r.ep.toNat).toArray⟩, ⟨(beBytes 4 r.pg.toNat).toArray⟩, ⟨(beBytes 4 r.ct.toNat).toArray⟩, ⟨(beBytes 4 r.fr.toNat).toArray⟩, ⟨(beBytes 4 r.nx.toNat).toArray⟩] = headL r) := by
    show cat _ = _
    simp only [cat, List.map_cons, List.map_nil, List.flatten_cons, List.flatten_nil, List.append_nil, headL]
  have EB : Hid (headL r ++ List.replicate 228 0 = bodyL r) := rfl
  have ES : Hid (bodyL r ++ (beBytes 4 (sumN (bodyL r)) ++ beBytes 4 r.ep.toNat) = slotL r) := rfl
  have LH : (headL r).length = 20 := headL_length r
  have LB : (bodyL r).length = 248 := bodyL_length r
  have LS : (slotL r).length = 256 := slotL_length r
  have hS : sumN (bodyL r) < 4294967296 := sumN_lt _
  have SP : Hid (∀ u, Calls Tryd.prog 22 #[rtV r] u fun e w' => e = .returned (rtV r) ∧ Below u.heap.size u w') := fun u => split_any r u
  unfold rtV at *
  have K0 : Hid (∀ u, Calls Tryd.prog 23 #[.int .i64 4, .int .i64 r.ep] u fun e w' => e = .returned (.tuple #[.string ⟨(beBytes 4 r.ep.toNat).toArray⟩, .int .i64 0]) ∧ Below u.heap.size u w') := fun u => put_ok4 h0 u
  have K1 : Hid (∀ u, Calls Tryd.prog 23 #[.int .i64 4, .int .i64 r.pg] u fun e w' => e = .returned (.tuple #[.string ⟨(beBytes 4 r.pg.toNat).toArray⟩, .int .i64 0]) ∧ Below u.heap.size u w') := fun u => put_ok4 h1 u
  have K2 : Hid (∀ u, Calls Tryd.prog 23 #[.int .i64 4, .int .i64 r.ct] u fun e w' => e = .returned (.tuple #[.string ⟨(beBytes 4 r.ct.toNat).toArray⟩, .int .i64 0]) ∧ Below u.heap.size u w') := fun u => put_ok4 h2 u
  have K3 : Hid (∀ u, Calls Tryd.prog 23 #[.int .i64 4, .int .i64 r.fr] u fun e w' => e = .returned (.tuple #[.string ⟨(beBytes 4 r.fr.toNat).toArray⟩, .int .i64 0]) ∧ Below u.heap.size u w') := fun u => put_ok4 h3 u
  have K4 : Hid (∀ u, Calls Tryd.prog 23 #[.int .i64 4, .int .i64 r.nx] u fun e w' => e = .returned (.tuple #[.string ⟨(beBytes 4 r.nx.toNat).toArray⟩, .int .i64 0]) ∧ Below u.heap.size u w') := fun u => put_ok4 h4 u
  clear hz h0 h1 h2 h3 h4 T
  have L0 : (beBytes 4 r.ep.toNat).length = 4 := beBytes_length _ _
  have L1 : (beBytes 4 r.pg.toNat).length = 4 := beBytes_length _ _
  have L2 : (beBytes 4 r.ct.toNat).length = 4 := beBytes_length _ _
  have L3 : (beBytes 4 r.fr.toNat).length = 4 := beBytes_length _ _
  have L4 : (beBytes 4 r.nx.toNat).length = 4 := beBytes_length _ _
  generalize beBytes 4 r.ep.toNat = X0 at *
  generalize beBytes 4 r.pg.toNat = X1 at *
  generalize beBytes 4 r.ct.toNat = X2 at *
  generalize beBytes 4 r.fr.toNat = X3 at *
  generalize beBytes 4 r.nx.toNat = X4 at *
  generalize headL r = HD at *
  generalize bodyL r = BD at *
  generalize slotL r = SL at *
  obtain ⟨n0, n1, n2, n3, n4⟩ := r
  dsimp only at *
  have i0 : ∀ w : World, (Instr.index 51 (.agg #[.int .i64 n0, .int .i64 n1, .int .i64 n2, .int .i64 n3, .int .i64 n4]) (.int .i64 0)).run Tryd.prog w = .ok (.int .i64 n0) w := fun _ => by kernel_rfl
  have i1 : ∀ w : World, (Instr.index 51 (.agg #[.int .i64 n0, .int .i64 n1, .int .i64 n2, .int .i64 n3, .int .i64 n4]) (.int .i64 1)).run Tryd.prog w = .ok (.int .i64 n1) w := fun _ => by kernel_rfl
  have i2 : ∀ w : World, (Instr.index 51 (.agg #[.int .i64 n0, .int .i64 n1, .int .i64 n2, .int .i64 n3, .int .i64 n4]) (.int .i64 2)).run Tryd.prog w = .ok (.int .i64 n2) w := fun _ => by kernel_rfl
  have i3 : ∀ w : World, (Instr.index 51 (.agg #[.int .i64 n0, .int .i64 n1, .int .i64 n2, .int .i64 n3, .int .i64 n4]) (.int .i64 3)).run Tryd.prog w = .ok (.int .i64 n3) w := fun _ => by kernel_rfl
  have i4 : ∀ w : World, (Instr.index 51 (.agg #[.int .i64 n0, .int .i64 n1, .int .i64 n2, .int .i64 n3, .int .i64 n4]) (.int .i64 4)).run Tryd.prog w = .ok (.int .i64 n4) w := fun _ => by kernel_rfl
  go_enter Tryd.func10, Tryd.ntmps10
  go_wp2_with fail
  have P0 : Hid (Cl ((w.alloc (.cells #[.int .i64 n0, .int .i64 n1, .int .i64 n2, .int .i64 n3, .int .i64 n4] 23)).alloc (.cells #[.string ⟨#[]⟩, .string ⟨#[]⟩, .string ⟨#[]⟩, .string ⟨#[]⟩, .string ⟨#[]⟩] 50)) (w.heap.size + 1) #[.string ⟨#[]⟩, .string ⟨#[]⟩, .string ⟨#[]⟩, .string ⟨#[]⟩, .string ⟨#[]⟩] 50) := by
    have := Cl.new (w.alloc (.cells #[.int .i64 n0, .int .i64 n1, .int .i64 n2, .int .i64 n3, .int .i64 n4] 23)) #[.string ⟨#[]⟩, .string ⟨#[]⟩, .string ⟨#[]⟩, .string ⟨#[]⟩, .string ⟨#[]⟩] 50
    rw [show (w.alloc (.cells #[.int .i64 n0, .int .i64 n1, .int .i64 n2, .int .i64 n3, .int .i64 n4] 23)).heap.size = w.heap.size + 1 by simp] at this
    exact this
  have A0 : Hid (Below w.heap.size w ((w.alloc (.cells #[.int .i64 n0, .int .i64 n1, .int .i64 n2, .int .i64 n3, .int .i64 n4] 23)).alloc (.cells #[.string ⟨#[]⟩, .string ⟨#[]⟩, .string ⟨#[]⟩, .string ⟨#[]⟩, .string ⟨#[]⟩] 50))) := ((Below.refl _ _).alloc (Nat.le_refl _) _).alloc (by simp) _
  have hl : Hid (w.heap.size ≤ w.heap.size + 1) := Nat.le_succ _
  generalize (w.alloc (.cells #[.int .i64 n0, .int .i64 n1, .int .i64 n2, .int .i64 n3, .int .i64 n4] 23)).alloc (.cells #[.string ⟨#[]⟩, .string ⟨#[]⟩, .string ⟨#[]⟩, .string ⟨#[]⟩, .string ⟨#[]⟩] 50) = z0 at *
  generalize w.heap.size + 1 = p at *
  refine Calls.mono (SP.out _) ?_
  rintro e v0 ⟨rfl, b0⟩
  have N0 : Hid (Cl v0 p #[.string ⟨#[]⟩, .string ⟨#[]⟩, .string ⟨#[]⟩, .string ⟨#[]⟩, .string ⟨#[]⟩] 50) := Cl.on P0.out b0
  have B0 : Hid (Below w.heap.size w v0) := A0.out.trans (b0.mono A0.out.size)
  clear SP P0 A0 b0
  go_wp2_with fail
  refine wp_loop_rounds 6 ?_
  rw [rounds_succ]
  go_wp2_with fail
  refine Calls.mono (K0.out _) ?_
  rintro e u0 ⟨rfl, b0⟩
  have M : Hid (Cl u0 p #[.string ⟨#[]⟩, .string ⟨#[]⟩, .string ⟨#[]⟩, .string ⟨#[]⟩, .string ⟨#[]⟩] 50) := Cl.on N0.out b0
  obtain ⟨c0, f0⟩ := M.out.at 0 rfl
  have N1 : Hid (Cl (u0.setCell ⟨p, 0, none⟩ (.string ⟨X0.toArray⟩)) p #[.string ⟨X0.toArray⟩, .string ⟨#[]⟩, .string ⟨#[]⟩, .string ⟨#[]⟩, .string ⟨#[]⟩] 50) := M.out.set 0 _
  have B1 : Hid (Below w.heap.size w (u0.setCell ⟨p, 0, none⟩ (.string ⟨X0.toArray⟩))) := (B0.out.trans (b0.mono B0.out.size)).trans ((Only.setCell p 0 u0 _).below hl.out)
  clear b0 K0 M N0 B0
  go_wp2_with fail
  generalize u0.setCell ⟨p, 0, none⟩ (.string ⟨X0.toArray⟩) = v1 at *
  clear c0 f0
  rw [rounds_succ]
  go_wp2_with fail
  refine Calls.mono (K1.out _) ?_
  rintro e u1 ⟨rfl, b1⟩
  have M : Hid (Cl u1 p #[.string ⟨X0.toArray⟩, .string ⟨#[]⟩, .string ⟨#[]⟩, .string ⟨#[]⟩, .string ⟨#[]⟩] 50) := Cl.on N1.out b1
  obtain ⟨c1, f1⟩ := M.out.at 1 rfl
  have N2 : Hid (Cl (u1.setCell ⟨p, 1, none⟩ (.string ⟨X1.toArray⟩)) p #[.string ⟨X0.toArray⟩, .string ⟨X1.toArray⟩, .string ⟨#[]⟩, .string ⟨#[]⟩, .string ⟨#[]⟩] 50) := M.out.set 1 _
  have B2 : Hid (Below w.heap.size w (u1.setCell ⟨p, 1, none⟩ (.string ⟨X1.toArray⟩))) := (B1.out.trans (b1.mono B1.out.size)).trans ((Only.setCell p 1 u1 _).below hl.out)
  clear b1 K1 M N1 B1
  go_wp2_with fail
  generalize u1.setCell ⟨p, 1, none⟩ (.string ⟨X1.toArray⟩) = v2 at *
  clear c1 f1
  rw [rounds_succ]
  go_wp2_with fail
  refine Calls.mono (K2.out _) ?_
  rintro e u2 ⟨rfl, b2⟩
  have M : Hid (Cl u2 p #[.string ⟨X0.toArray⟩, .string ⟨X1.toArray⟩, .string ⟨#[]⟩, .string ⟨#[]⟩, .string ⟨#[]⟩] 50) := Cl.on N2.out b2
  obtain ⟨c2, f2⟩ := M.out.at 2 rfl
  have N3 : Hid (Cl (u2.setCell ⟨p, 2, none⟩ (.string ⟨X2.toArray⟩)) p #[.string ⟨X0.toArray⟩, .string ⟨X1.toArray⟩, .string ⟨X2.toArray⟩, .string ⟨#[]⟩, .string ⟨#[]⟩] 50) := M.out.set 2 _
  have B3 : Hid (Below w.heap.size w (u2.setCell ⟨p, 2, none⟩ (.string ⟨X2.toArray⟩))) := (B2.out.trans (b2.mono B2.out.size)).trans ((Only.setCell p 2 u2 _).below hl.out)
  clear b2 K2 M N2 B2
  go_wp2_with fail
  generalize u2.setCell ⟨p, 2, none⟩ (.string ⟨X2.toArray⟩) = v3 at *
  clear c2 f2
  rw [rounds_succ]
  go_wp2_with fail
  refine Calls.mono (K3.out _) ?_
  rintro e u3 ⟨rfl, b3⟩
  have M : Hid (Cl u3 p #[.string ⟨X0.toArray⟩, .string ⟨X1.toArray⟩, .string ⟨X2.toArray⟩, .string ⟨#[]⟩, .string ⟨#[]⟩] 50) := Cl.on N3.out b3
  obtain ⟨c3, f3⟩ := M.out.at 3 rfl
  have N4 : Hid (Cl (u3.setCell ⟨p, 3, none⟩ (.string ⟨X3.toArray⟩)) p #[.string ⟨X0.toArray⟩, .string ⟨X1.toArray⟩, .string ⟨X2.toArray⟩, .string ⟨X3.toArray⟩, .string ⟨#[]⟩] 50) := M.out.set 3 _
  have B4 : Hid (Below w.heap.size w (u3.setCell ⟨p, 3, none⟩ (.string ⟨X3.toArray⟩))) := (B3.out.trans (b3.mono B3.out.size)).trans ((Only.setCell p 3 u3 _).below hl.out)
  clear b3 K3 M N3 B3
  go_wp2_with fail
  generalize u3.setCell ⟨p, 3, none⟩ (.string ⟨X3.toArray⟩) = v4 at *
  clear c3 f3
  rw [rounds_succ]
  go_wp2_with fail
  refine Calls.mono (K4.out _) ?_
  rintro e u4 ⟨rfl, b4⟩
  have M : Hid (Cl u4 p #[.string ⟨X0.toArray⟩, .string ⟨X1.toArray⟩, .string ⟨X2.toArray⟩, .string ⟨X3.toArray⟩, .string ⟨#[]⟩] 50) := Cl.on N4.out b4
  obtain ⟨c4, f4⟩ := M.out.at 4 rfl
  have N5 : Hid (Cl (u4.setCell ⟨p, 4, none⟩ (.string ⟨X4.toArray⟩)) p #[.string ⟨X0.toArray⟩, .string ⟨X1.toArray⟩, .string ⟨X2.toArray⟩, .string ⟨X3.toArray⟩, .string ⟨X4.toArray⟩] 50) := M.out.set 4 _
  have B5 : Hid (Below w.heap.size w (u4.setCell ⟨p, 4, none⟩ (.string ⟨X4.toArray⟩))) := (B4.out.trans (b4.mono B4.out.size)).trans ((Only.setCell p 4 u4 _).below hl.out)
  clear b4 K4 M N4 B4
  go_wp2_with fail
  generalize u4.setCell ⟨p, 4, none⟩ (.string ⟨X4.toArray⟩) = v5 at *
  clear c4 f4
  rw [rounds_succ]
  have J1 : Hid (Calls Tryd.prog 24 #[.slice (some ⟨p, 0, none⟩) 5 5] v5 fun e w' => e = .returned (.string ⟨HD.toArray⟩) ∧ Below v5.heap.size v5 w') := by
    have := join_any p 0 5 5 [⟨X0.toArray⟩, ⟨X1.toArray⟩, ⟨X2.toArray⟩, ⟨X3.toArray⟩, ⟨X4.toArray⟩] v5 (fun j z hj => ?_) N5.out.lt rfl (by simp) (by simp) (by rw [EH.out, LH]; omega)
    · rw [EH.out] at this
      exact this
    · rw [Nat.zero_add, N5.out.cell j]
      match j, hj with
      | 0, hj => simp at hj ⊢; exact hj
      | 1, hj => simp at hj ⊢; exact hj
      | 2, hj => simp at hj ⊢; exact hj
      | 3, hj => simp at hj ⊢; exact hj
      | 4, hj => simp at hj ⊢; exact hj
  go_wp2_with fail
  refine Calls.mono J1.out ?_
  rintro e w1 ⟨rfl, b1⟩
  have N6 : Hid (Cl w1 p #[.string ⟨X0.toArray⟩, .string ⟨X1.toArray⟩, .string ⟨X2.toArray⟩, .string ⟨X3.toArray⟩, .string ⟨X4.toArray⟩] 50) := Cl.on N5.out b1
  have B6 : Hid (Below w.heap.size w w1) := B5.out.trans (b1.mono B5.out.size)
  clear b1 J1 N5 B5
  have RP : Hid (Calls Tryd.prog 25 #[.string ⟨#[0]⟩, .int .i64 228] w1 fun e w' => e = .returned (.string ⟨(List.replicate 228 (0 : UInt8)).toArray⟩) ∧ Below w1.heap.size w1 w') := by
    have := Tryd.strings_Repeat ⟨#[0]⟩ 228 w1 (by omega) (by show 1 * 228 ≤ _; omega)
    rw [show (⟨#[0]⟩ : ByteArray).data.toList = [0] from rfl, repeat_zero] at this
    exact this
  generalize hRZ : List.replicate 228 (0 : UInt8) = RZ at *
  have LZ : RZ.length = 228 := by rw [← hRZ, List.length_replicate]
  clear hRZ
  go_wp2_with fail
  refine Calls.mono RP.out ?_
  rintro e w2 ⟨rfl, b2⟩
  have N7 : Hid (Cl w2 p #[.string ⟨X0.toArray⟩, .string ⟨X1.toArray⟩, .string ⟨X2.toArray⟩, .string ⟨X3.toArray⟩, .string ⟨X4.toArray⟩] 50) := Cl.on N6.out b2
  have B7 : Hid (Below w.heap.size w w2) := B6.out.trans (b2.mono B6.out.size)
  clear b2 RP N6 B6
  have J2 : Hid _ := join2 ⟨HD.toArray⟩ ⟨RZ.toArray⟩ w2 (by rw [ba_size, ba_size]; omega)
  rw [show (⟨HD.toArray⟩ : ByteArray).data.toList = HD from rfl, show (⟨RZ.toArray⟩ : ByteArray).data.toList = RZ from rfl, EB.out] at J2
  go_wp2_with fail
  refine Calls.mono J2.out ?_
  rintro e w3 ⟨rfl, b3⟩
  have N8 : Hid (Cl w3 p #[.string ⟨X0.toArray⟩, .string ⟨X1.toArray⟩, .string ⟨X2.toArray⟩, .string ⟨X3.toArray⟩, .string ⟨X4.toArray⟩] 50) := Cl.on N7.out b3
  have B8 : Hid (Below w.heap.size w w3) := B7.out.trans (b3.mono B7.out.size)
  clear b3 J2 N7 B7
  have S1 : Hid _ := sum1 ⟨BD.toArray⟩ w3 (TAB.out.below B8.out) (by rw [ba_size]; unfold maxLen; omega)
  rw [show (⟨BD.toArray⟩ : ByteArray).data.toList = BD from rfl] at S1
  generalize sumN BD = S at *
  go_wp2_with fail
  refine Calls.mono S1.out ?_
  rintro e w4 ⟨rfl, hw4⟩
  have b4 : Below w3.heap.size w3 w4 := by subst hw4; exact (Below.refl _ _).alloc (Nat.le_refl _) _
  have N9 : Hid (Cl w4 p #[.string ⟨X0.toArray⟩, .string ⟨X1.toArray⟩, .string ⟨X2.toArray⟩, .string ⟨X3.toArray⟩, .string ⟨X4.toArray⟩] 50) := Cl.on N8.out b4
  have B9 : Hid (Below w.heap.size w w4) := B8.out.trans (b4.mono B8.out.size)
  clear b4 hw4 S1 N8 B8
  have PT : Hid _ := put4 S w4 hS
  have LC : (beBytes 4 S).length = 4 := beBytes_length _ _
  generalize beBytes 4 S = CK at *
  go_wp2_with fail
  refine Calls.mono PT.out ?_
  rintro e w5 ⟨rfl, b5⟩
  have N10 : Hid (Cl w5 p #[.string ⟨X0.toArray⟩, .string ⟨X1.toArray⟩, .string ⟨X2.toArray⟩, .string ⟨X3.toArray⟩, .string ⟨X4.toArray⟩] 50) := Cl.on N9.out b5
  have B10 : Hid (Below w.heap.size w w5) := B9.out.trans (b5.mono B9.out.size)
  clear b5 PT N9 B9
  have c0 := (N10.out.five).1
  have J3 : Hid _ := join3 ⟨BD.toArray⟩ ⟨CK.toArray⟩ ⟨X0.toArray⟩ w5 (by rw [ba_size, ba_size, ba_size]; omega)
  rw [show (⟨BD.toArray⟩ : ByteArray).data.toList = BD from rfl, show (⟨CK.toArray⟩ : ByteArray).data.toList = CK from rfl, show (⟨X0.toArray⟩ : ByteArray).data.toList = X0 from rfl, ES.out] at J3
  go_wp2_with fail
  refine Calls.mono J3.out ?_
  rintro e w6 ⟨rfl, b6⟩
  have BF : Hid (Below w.heap.size w w6) := B10.out.trans (b6.mono B10.out.size)
  clear b6 J3
  go_wp2
  go_ret2
  exact ⟨rfl, BF.out⟩

theorem enc_any (r : Rt) (w : World) (T : Tab w) : Calls Tryd.prog 10 #[rtV r] w fun e w' => e = .returned (.tuple #[.string ⟨(encS r).toArray⟩, .int .i64 (encE r)]) ∧ Below w.heap.size w w' := by
  by_cases hz : r.ep = 0
  · have hn : r.ok = false := by unfold Rt.ok; rw [decide_eq_false (fun c => c hz)]; rfl
    rw [encS_no hn, encE_no hn]
    exact enc_zero r w hz
  · have hd : r.ok = r.fits := by unfold Rt.ok; rw [decide_eq_true hz]; rfl
    cases h0 : putB 4 r.ep
    · have hn : r.ok = false := by rw [hd]; unfold Rt.fits; simp [h0]
      rw [encS_no hn, encE_no hn]
      exact enc_no0 r w hz h0
    cases h1 : putB 4 r.pg
    · have hn : r.ok = false := by rw [hd]; unfold Rt.fits; simp [h1]
      rw [encS_no hn, encE_no hn]
      exact enc_no1 r w hz h0 h1
    cases h2 : putB 4 r.ct
    · have hn : r.ok = false := by rw [hd]; unfold Rt.fits; simp [h2]
      rw [encS_no hn, encE_no hn]
      exact enc_no2 r w hz h0 h1 h2
    cases h3 : putB 4 r.fr
    · have hn : r.ok = false := by rw [hd]; unfold Rt.fits; simp [h3]
      rw [encS_no hn, encE_no hn]
      exact enc_no3 r w hz h0 h1 h2 h3
    cases h4 : putB 4 r.nx
    · have hn : r.ok = false := by rw [hd]; unfold Rt.fits; simp [h4]
      rw [encS_no hn, encE_no hn]
      exact enc_no4 r w hz h0 h1 h2 h3 h4
    have hn : r.ok = true := by rw [hd]; unfold Rt.fits; simp [h0, h1, h2, h3, h4]
    rw [encS_ok hn, encE_ok hn]
    exact enc_ok r w T hz h0 h1 h2 h3 h4

theorem enc_yes {r : Rt} (h : r.ok = true) (w : World) (T : Tab w) : Calls Tryd.prog 10 #[rtV r] w fun e w' => e = .returned (.tuple #[.string ⟨(slotL r).toArray⟩, .int .i64 0]) ∧ Below w.heap.size w w' := by
  have := enc_any r w T
  rw [encS_ok h, encE_ok h] at this
  exact this
theorem enc_not {r : Rt} (h : r.ok = false) (w : World) (T : Tab w) : Calls Tryd.prog 10 #[rtV r] w fun e w' => e = .returned (.tuple #[.string ⟨#[]⟩, .int .i64 1]) ∧ Below w.heap.size w w' := by
  have := enc_any r w T
  rw [encS_no h, encE_no h] at this
  exact this

end Go.Proofs.YtalljfckjkbieaaDoor

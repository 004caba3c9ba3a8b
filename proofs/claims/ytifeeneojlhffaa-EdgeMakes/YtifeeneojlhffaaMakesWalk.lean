/-
  The walk of the law EdgeMakes.
-/
import Derived.Test.YtifeeneojlhffaaEdWorks
namespace Go.Proofs.Ytifeeneojlhffaa
open Go.RowKit
namespace edgeMakes

set_option maxRecDepth 100000 in
set_option maxHeartbeats 2000000 in
theorem go_no1 (u v : Int) (w : World) (b : Bool) (VU : Hid (∀ w, Calls Try.prog 10 #[.int .i64 u] w fun e w' => e = .returned (.bool false) ∧ w = w')) (VV : Hid (∀ w, Calls Try.prog 10 #[.int .i64 v] w fun e w' => e = .returned (.bool b) ∧ w = w'))
    (EU : Hid (∀ w, Calls Try.prog 12 #[.int .i64 u] w fun e w' => e = .returned (.int .i64 30) ∧ w = w'))
    (MK : Hid (∀ w, Calls Try.prog 11 #[.int .i64 u, .int .i64 v] w fun e w' => e = .returned (.tuple #[.agg #[.int .i64 0, .int .i64 0], .int .i64 30]) ∧ Below w.heap.size w w')) :
    Calls Try.prog 3 #[.int .i64 u, .int .i64 v] w fun e w' => e = .returned (.bool true) ∧ Below w.heap.size w w' := by
  have E1 : ∀ W, Sem.run Try.prog (binOp .eql 25 (.agg #[.int .i64 0, .int .i64 0]) (.agg #[.int .i64 0, .int .i64 0])) W = .ok (.bool true) W := fun W => eqlP (x := (0, 0)) (y := (0, 0)) (decide_eq_true rfl) W
  have G1 : ∀ op a b W, Sem.run Try.prog (eqGuard op 25 a b (.agg #[.int .i64 0, .int .i64 0]) (.agg #[.int .i64 0, .int .i64 0])) W = .ok () W := gdP (0, 0) (0, 0)
  go_enter Try.func3, Try.ntmps3
  go_wp2_with fail
  refine (works_any _).mono ?_
  rintro e w1 ⟨rfl, b1⟩
  have k1 := b1.size
  go_wp2_with fail
  refine Calls.mono (VU.out _) ?_
  rintro e w2 ⟨rfl, rfl⟩
  go_wp2_with fail
  refine Calls.mono (VV.out _) ?_
  rintro e w2 ⟨rfl, rfl⟩
  go_wp2_with fail
  refine Calls.mono (MK.out _) ?_
  rintro e w2 ⟨rfl, b2⟩
  have k2 := b2.size
  go_wp2_with (go_at_call 12; refine Calls.mono (EU.out _) ?_; rintro e w3 ⟨rfl, rfl⟩)
  go_ret
  exact ⟨rfl, (b1.trans (b2.mono k1)).alloc (by omega) _⟩

set_option maxRecDepth 100000 in
set_option maxHeartbeats 2000000 in
theorem go_no2 (u v : Int) (w : World) (VU : Hid (∀ w, Calls Try.prog 10 #[.int .i64 u] w fun e w' => e = .returned (.bool true) ∧ w = w')) (VV : Hid (∀ w, Calls Try.prog 10 #[.int .i64 v] w fun e w' => e = .returned (.bool false) ∧ w = w'))
    (EU : Hid (∀ w, Calls Try.prog 12 #[.int .i64 u] w fun e w' => e = .returned (.int .i64 0) ∧ w = w'))
    (MK : Hid (∀ w, Calls Try.prog 11 #[.int .i64 u, .int .i64 v] w fun e w' => e = .returned (.tuple #[.agg #[.int .i64 0, .int .i64 0], .int .i64 30]) ∧ Below w.heap.size w w')) :
    Calls Try.prog 3 #[.int .i64 u, .int .i64 v] w fun e w' => e = .returned (.bool true) ∧ Below w.heap.size w w' := by
  have E1 : ∀ W, Sem.run Try.prog (binOp .eql 25 (.agg #[.int .i64 0, .int .i64 0]) (.agg #[.int .i64 0, .int .i64 0])) W = .ok (.bool true) W := fun W => eqlP (x := (0, 0)) (y := (0, 0)) (decide_eq_true rfl) W
  have G1 : ∀ op a b W, Sem.run Try.prog (eqGuard op 25 a b (.agg #[.int .i64 0, .int .i64 0]) (.agg #[.int .i64 0, .int .i64 0])) W = .ok () W := gdP (0, 0) (0, 0)
  go_enter Try.func3, Try.ntmps3
  go_wp2_with fail
  refine (works_any _).mono ?_
  rintro e w1 ⟨rfl, b1⟩
  have k1 := b1.size
  go_wp2_with fail
  refine Calls.mono (VU.out _) ?_
  rintro e w2 ⟨rfl, rfl⟩
  go_wp2_with fail
  refine Calls.mono (VV.out _) ?_
  rintro e w2 ⟨rfl, rfl⟩
  go_wp2_with fail
  refine Calls.mono (MK.out _) ?_
  rintro e w2 ⟨rfl, b2⟩
  have k2 := b2.size
  go_wp2_with (go_at_call 12; refine Calls.mono (EU.out _) ?_; rintro e w3 ⟨rfl, rfl⟩)
  go_ret
  exact ⟨rfl, (b1.trans (b2.mono k1)).alloc (by omega) _⟩

set_option maxRecDepth 100000 in
set_option maxHeartbeats 2000000 in
theorem go_same (u v : Int) (w : World) (he : (u == v) = true) (VU : Hid (∀ w, Calls Try.prog 10 #[.int .i64 u] w fun e w' => e = .returned (.bool true) ∧ w = w')) (VV : Hid (∀ w, Calls Try.prog 10 #[.int .i64 v] w fun e w' => e = .returned (.bool true) ∧ w = w'))
    (EU : Hid (∀ w, Calls Try.prog 12 #[.int .i64 u] w fun e w' => e = .returned (.int .i64 0) ∧ w = w'))
    (MK : Hid (∀ w, Calls Try.prog 11 #[.int .i64 u, .int .i64 v] w fun e w' => e = .returned (.tuple #[.agg #[.int .i64 0, .int .i64 0], .int .i64 31]) ∧ Below w.heap.size w w')) :
    Calls Try.prog 3 #[.int .i64 u, .int .i64 v] w fun e w' => e = .returned (.bool true) ∧ Below w.heap.size w w' := by
  have E1 : ∀ W, Sem.run Try.prog (binOp .eql 25 (.agg #[.int .i64 0, .int .i64 0]) (.agg #[.int .i64 0, .int .i64 0])) W = .ok (.bool true) W := fun W => eqlP (x := (0, 0)) (y := (0, 0)) (decide_eq_true rfl) W
  have G1 : ∀ op a b W, Sem.run Try.prog (eqGuard op 25 a b (.agg #[.int .i64 0, .int .i64 0]) (.agg #[.int .i64 0, .int .i64 0])) W = .ok () W := gdP (0, 0) (0, 0)
  go_enter Try.func3, Try.ntmps3
  go_wp2_with fail
  refine (works_any _).mono ?_
  rintro e w1 ⟨rfl, b1⟩
  have k1 := b1.size
  go_wp2_with fail
  refine Calls.mono (VU.out _) ?_
  rintro e w2 ⟨rfl, rfl⟩
  go_wp2_with fail
  refine Calls.mono (VV.out _) ?_
  rintro e w2 ⟨rfl, rfl⟩
  go_wp2_with fail
  refine Calls.mono (MK.out _) ?_
  rintro e w2 ⟨rfl, b2⟩
  have k2 := b2.size
  go_wp2_with (go_at_call 12; refine Calls.mono (EU.out _) ?_; rintro e w3 ⟨rfl, rfl⟩)
  go_ret
  exact ⟨rfl, (b1.trans (b2.mono k1)).alloc (by omega) _⟩

set_option maxRecDepth 100000 in
set_option maxHeartbeats 2000000 in
theorem go_lt (u v : Int) (w : World) (he : (u == v) = false) (hl : u < v) (VU : Hid (∀ w, Calls Try.prog 10 #[.int .i64 u] w fun e w' => e = .returned (.bool true) ∧ w = w')) (VV : Hid (∀ w, Calls Try.prog 10 #[.int .i64 v] w fun e w' => e = .returned (.bool true) ∧ w = w'))
    (EU : Hid (∀ w, Calls Try.prog 12 #[.int .i64 u] w fun e w' => e = .returned (.int .i64 0) ∧ w = w'))
    (MK : Hid (∀ w, Calls Try.prog 11 #[.int .i64 u, .int .i64 v] w fun e w' => e = .returned (.tuple #[.agg #[.int .i64 u, .int .i64 v], .int .i64 0]) ∧ Below w.heap.size w w')) :
    Calls Try.prog 3 #[.int .i64 u, .int .i64 v] w fun e w' => e = .returned (.bool true) ∧ Below w.heap.size w w' := by
  have E1 : ∀ W, Sem.run Try.prog (binOp .eql 25 (.agg #[.int .i64 u, .int .i64 v]) (.agg #[.int .i64 u, .int .i64 v])) W = .ok (.bool true) W := fun W => eqlP (x := (u, v)) (y := (u, v)) (decide_eq_true rfl) W
  have G1 : ∀ op a b W, Sem.run Try.prog (eqGuard op 25 a b (.agg #[.int .i64 u, .int .i64 v]) (.agg #[.int .i64 u, .int .i64 v])) W = .ok () W := gdP (u, v) (u, v)
  go_enter Try.func3, Try.ntmps3
  go_wp2_with fail
  refine (works_any _).mono ?_
  rintro e w1 ⟨rfl, b1⟩
  have k1 := b1.size
  go_wp2_with fail
  refine Calls.mono (VU.out _) ?_
  rintro e w2 ⟨rfl, rfl⟩
  go_wp2_with fail
  refine Calls.mono (VV.out _) ?_
  rintro e w2 ⟨rfl, rfl⟩
  go_wp2_with fail
  refine Calls.mono (MK.out _) ?_
  rintro e w2 ⟨rfl, b2⟩
  have k2 := b2.size
  go_wp2_with (go_at_call 12; refine Calls.mono (EU.out _) ?_; rintro e w3 ⟨rfl, rfl⟩)
  go_ret
  exact ⟨rfl, (b1.trans (b2.mono k1)).alloc (by omega) _⟩

set_option maxRecDepth 100000 in
set_option maxHeartbeats 2000000 in
theorem go_gt (u v : Int) (w : World) (he : (u == v) = false) (hl : v < u) (VU : Hid (∀ w, Calls Try.prog 10 #[.int .i64 u] w fun e w' => e = .returned (.bool true) ∧ w = w')) (VV : Hid (∀ w, Calls Try.prog 10 #[.int .i64 v] w fun e w' => e = .returned (.bool true) ∧ w = w'))
    (EU : Hid (∀ w, Calls Try.prog 12 #[.int .i64 u] w fun e w' => e = .returned (.int .i64 0) ∧ w = w'))
    (MK : Hid (∀ w, Calls Try.prog 11 #[.int .i64 u, .int .i64 v] w fun e w' => e = .returned (.tuple #[.agg #[.int .i64 v, .int .i64 u], .int .i64 0]) ∧ Below w.heap.size w w')) :
    Calls Try.prog 3 #[.int .i64 u, .int .i64 v] w fun e w' => e = .returned (.bool true) ∧ Below w.heap.size w w' := by
  have E1 : ∀ W, Sem.run Try.prog (binOp .eql 25 (.agg #[.int .i64 v, .int .i64 u]) (.agg #[.int .i64 v, .int .i64 u])) W = .ok (.bool true) W := fun W => eqlP (x := (v, u)) (y := (v, u)) (decide_eq_true rfl) W
  have G1 : ∀ op a b W, Sem.run Try.prog (eqGuard op 25 a b (.agg #[.int .i64 v, .int .i64 u]) (.agg #[.int .i64 v, .int .i64 u])) W = .ok () W := gdP (v, u) (v, u)
  go_enter Try.func3, Try.ntmps3
  go_wp2_with fail
  refine (works_any _).mono ?_
  rintro e w1 ⟨rfl, b1⟩
  have k1 := b1.size
  go_wp2_with fail
  refine Calls.mono (VU.out _) ?_
  rintro e w2 ⟨rfl, rfl⟩
  go_wp2_with fail
  refine Calls.mono (VV.out _) ?_
  rintro e w2 ⟨rfl, rfl⟩
  go_wp2_with fail
  refine Calls.mono (MK.out _) ?_
  rintro e w2 ⟨rfl, b2⟩
  have k2 := b2.size
  go_wp2_with (go_at_call 12; refine Calls.mono (EU.out _) ?_; rintro e w3 ⟨rfl, rfl⟩)
  go_ret
  exact ⟨rfl, (b1.trans (b2.mono k1)).alloc (by omega) _⟩

theorem walk (u v : Int) (w : World) : Calls Try.prog 3 #[.int .i64 u, .int .i64 v] w fun e w' => e = .returned (.bool true) ∧ Below w.heap.size w w' := by
  have VU : ∀ w, Calls Try.prog 10 #[.int .i64 u] w fun e w' => e = .returned (.bool (vtx u)) ∧ w = w' := fun w => rvertex_any u w
  have VV : ∀ w, Calls Try.prog 10 #[.int .i64 v] w fun e w' => e = .returned (.bool (vtx v)) ∧ w = w' := fun w => rvertex_any v w
  have EU : ∀ w, Calls Try.prog 12 #[.int .i64 u] w fun e w' => e = .returned (.int .i64 (vxE u)) ∧ w = w' := fun w => vertex_any u w
  have MK : ∀ w, Calls Try.prog 11 #[.int .i64 u, .int .i64 v] w fun e w' => e = .returned (.tuple #[.agg #[.int .i64 (mkP u v).1, .int .i64 (mkP u v).2], .int .i64 (mkE u v)]) ∧ Below w.heap.size w w' := fun w => make_any u v w
  cases hu : vtx u
  · have e1 : vxE u = 30 := by simp [vxE, hu]
    have e2 : mkP u v = (0, 0) := by simp [mkP, hu]
    have e3 : mkE u v = 30 := by simp [mkE, hu]
    rw [hu] at VU
    rw [e1] at EU
    rw [e2, e3] at MK
    exact go_no1 u v w (vtx v) VU VV EU MK
  · have e1 : vxE u = 0 := by simp [vxE, hu]
    rw [hu] at VU
    rw [e1] at EU
    cases hv : vtx v
    · have e2 : mkP u v = (0, 0) := by simp [mkP, hu, hv]
      have e3 : mkE u v = 30 := by simp [mkE, hu, hv]
      rw [hv] at VV
      rw [e2, e3] at MK
      exact go_no2 u v w VU VV EU MK
    · rw [hv] at VV
      by_cases he : u = v
      · have e2 : mkP u v = (0, 0) := by simp [mkP, he]
        have e3 : mkE u v = 31 := by simp [mkE, hv, he]
        rw [e2, e3] at MK
        exact go_same u v w (by simpa using he) VU VV EU MK
      · have e3 : mkE u v = 0 := by simp [mkE, hu, hv, he]
        have e2 : mkP u v = (min u v, max u v) := by unfold mkP; rw [if_pos ⟨by rw [hu, hv]; rfl, he⟩]
        rw [e2, e3] at MK
        have hb : (u == v) = false := beq_eq_false_iff_ne.2 he
        by_cases hl : u < v
        · rw [show min u v = u by omega, show max u v = v by omega] at MK
          exact go_lt u v w hb hl VU VV EU MK
        · rw [show min u v = v by omega, show max u v = u by omega] at MK
          exact go_gt u v w hb (by omega) VU VV EU MK
end edgeMakes
end Go.Proofs.Ytifeeneojlhffaa

/-
  The walks of edge.Vertex, areVertices, Make, Key and Parse, and of the document's Vertex and Key.
-/
import Derived.Test.YtifeeneojlhffaaCdRefPut
import Derived.Test.YtifeeneojlhffaaCmp
import Derived.Laws.ResultCell
namespace Go.Proofs.Ytifeeneojlhffaa
open Go.RowKit

/-- A vertex. -/
def vtx (v : Int) : Bool := decide (0 ≤ v ∧ v < 1048576)
def vxE (v : Int) : Int := if vtx v = true then 0 else 30

set_option maxHeartbeats 400000 in
theorem vertex_any (v : Int) (w : World) : Calls Try.prog 12 #[.int .i64 v] w fun e w' => e = .returned (.int .i64 (vxE v)) ∧ w = w' := by
  by_cases h1 : v < 0
  · have E : Hid (vxE v = 30) := by
      have : vtx v = false := by simp [vtx]; omega
      simp [Hid, vxE, this]
    go_enter Try.func12, Try.ntmps12
    go_wp2
    go_ret
    exact ⟨ret_int E.out.symm, rfl⟩
  · by_cases h2 : 1048576 ≤ v
    · have E : Hid (vxE v = 30) := by
        have : vtx v = false := by simp [vtx]; omega
        simp [Hid, vxE, this]
      go_enter Try.func12, Try.ntmps12
      go_wp2
      go_ret
      exact ⟨ret_int E.out.symm, rfl⟩
    · have E : Hid (vxE v = 0) := by
        have : vtx v = true := by simp [vtx]; omega
        simp [Hid, vxE, this]
      go_enter Try.func12, Try.ntmps12
      go_wp2
      go_ret
      exact ⟨ret_int E.out.symm, rfl⟩

set_option maxHeartbeats 400000 in
theorem rvertex_any (v : Int) (w : World) : Calls Try.prog 10 #[.int .i64 v] w fun e w' => e = .returned (.bool (vtx v)) ∧ w = w' := by
  by_cases h1 : v < 0
  · have E : Hid (vtx v = false) := by simp [Hid, vtx]; omega
    have h3 : ¬ 0 ≤ v := by omega
    go_enter Try.func10, Try.ntmps10
    go_wp2
    go_ret
    exact ⟨ret_bool E.out.symm, rfl⟩
  · have h3 : 0 ≤ v := by omega
    by_cases h2 : 1048576 ≤ v
    · have E : Hid (vtx v = false) := by simp [Hid, vtx]; omega
      have h4 : ¬ v < 1048576 := by omega
      go_enter Try.func10, Try.ntmps10
      go_wp2
      go_ret
      exact ⟨ret_bool E.out.symm, rfl⟩
    · have E : Hid (vtx v = true) := by simp [Hid, vtx]; omega
      have h4 : v < 1048576 := by omega
      go_enter Try.func10, Try.ntmps10
      go_wp2
      go_ret
      exact ⟨ret_bool E.out.symm, rfl⟩

set_option maxRecDepth 100000 in
set_option maxHeartbeats 400000 in
theorem areV_any (u v : Int) (w : World) : Calls Try.prog 28 #[.int .i64 u, .int .i64 v] w fun e w' => e = .returned (.bool (vtx u && vtx v)) ∧ w = w' := by
  have VU : Aside (∀ w, Calls Try.prog 12 #[.int .i64 u] w fun e w' => e = .returned (.int .i64 (vxE u)) ∧ w = w') := fun w => vertex_any u w
  have VV : Aside (∀ w, Calls Try.prog 12 #[.int .i64 v] w fun e w' => e = .returned (.int .i64 (vxE v)) ∧ w = w') := fun w => vertex_any v w
  have eu : vxE u = if vtx u = true then 0 else 30 := rfl
  have ev : vxE v = if vtx v = true then 0 else 30 := rfl
  rw [eu] at VU
  rw [ev] at VV
  clear eu ev
  cases hu : vtx u
  · rw [hu] at VU
    simp only [Bool.false_eq_true, if_false] at VU
    go_enter Try.func28, Try.ntmps28
    go_wp2_with fail
    refine Calls.mono (VU.out _) ?_
    rintro e w' ⟨rfl, rfl⟩
    go_wp2
    go_ret
    exact ⟨ret_bool (by simp), rfl⟩
  · rw [hu] at VU
    simp only [if_true] at VU
    cases hv : vtx v
    · rw [hv] at VV
      simp only [Bool.false_eq_true, if_false] at VV
      go_enter Try.func28, Try.ntmps28
      go_wp2_with fail
      refine Calls.mono (VU.out _) ?_
      rintro e w' ⟨rfl, rfl⟩
      go_wp2_with fail
      refine Calls.mono (VV.out _) ?_
      rintro e w' ⟨rfl, rfl⟩
      go_wp2
      go_ret
      exact ⟨ret_bool (by simp), rfl⟩
    · rw [hv] at VV
      simp only [if_true] at VV
      go_enter Try.func28, Try.ntmps28
      go_wp2_with fail
      refine Calls.mono (VU.out _) ?_
      rintro e w' ⟨rfl, rfl⟩
      go_wp2_with fail
      refine Calls.mono (VV.out _) ?_
      rintro e w' ⟨rfl, rfl⟩
      go_wp2
      go_ret
      exact ⟨ret_bool (by simp), rfl⟩

/-- What Make answers. -/
def mkP (u v : Int) : Pr := if (vtx u && vtx v) = true ∧ u ≠ v then (min u v, max u v) else (0, 0)
def mkE (u v : Int) : Int := if (vtx u && vtx v) = true then (if u = v then 31 else 0) else 30

theorem ret_mk {a b c d e f : Int} (h1 : a = d) (h2 : b = e) (h3 : c = f) : Ending.returned (.tuple #[.agg #[.int .i64 a, .int .i64 b], .int .i64 c]) = .returned (.tuple #[.agg (encP (d, e)).toArray, .int .i64 f]) := by subst h1 h2 h3; rfl

set_option maxRecDepth 100000 in
set_option maxHeartbeats 1000000 in
theorem make_any (u v : Int) (w : World) : Calls Try.prog 11 #[.int .i64 u, .int .i64 v] w fun e w' => e = .returned (.tuple #[.agg (encP (mkP u v)).toArray, .int .i64 (mkE u v)]) ∧ Below w.heap.size w w' := by
  have A : Aside (∀ w, Calls Try.prog 28 #[.int .i64 u, .int .i64 v] w fun e w' => e = .returned (.bool (vtx u && vtx v)) ∧ w = w') := fun w => areV_any u v w
  cases hv : (vtx u && vtx v)
  · have E1 : Hid (mkP u v = (0, 0)) := by simp [Hid, mkP, hv]
    have E2 : Hid (mkE u v = 30) := by simp [Hid, mkE, hv]
    rw [hv] at A
    clear hv
    go_enter Try.func11, Try.ntmps11
    go_wp2_with (go_at_call 28; refine Calls.mono (A.out _) ?_; rintro e w' ⟨rfl, rfl⟩)
    (try simp only [Exit.inBlock, Exit.then])
    refine bodyPost_ret (v := .tuple #[.agg #[.int .i64 0, .int .i64 0], .int .i64 30]) ?_ rfl ⟨?_, ?_⟩
    · rw [results_cell_tmp rfl]
      go_simp
    · rw [E1.out, E2.out]
      rfl
    · exact (Below.refl _ _).alloc (Nat.le_refl _) _
  · by_cases he : u = v
    · subst he
      have E1 : Hid (mkP u u = (0, 0)) := by simp [Hid, mkP]
      have E2 : Hid (mkE u u = 31) := by show mkE u u = 31; unfold mkE; rw [if_pos hv, if_pos rfl]
      rw [hv] at A
      clear hv
      go_enter Try.func11, Try.ntmps11
      go_wp2_with (go_at_call 28; refine Calls.mono (A.out _) ?_; rintro e w' ⟨rfl, rfl⟩)
      (try simp only [Exit.inBlock, Exit.then])
      refine bodyPost_ret (v := .tuple #[.agg #[.int .i64 0, .int .i64 0], .int .i64 31]) ?_ rfl ⟨?_, ?_⟩
      · rw [results_cell_tmp rfl]
        go_simp
      · rw [E1.out, E2.out]
        rfl
      · exact (Below.refl _ _).alloc (Nat.le_refl _) _
    · have hb : (u == v) = false := beq_eq_false_iff_ne.2 he
      have E2 : Hid (mkE u v = 0) := by simp [Hid, mkE, hv, he]
      have E1 : Hid (mkP u v = (min u v, max u v)) := by show mkP u v = _; unfold mkP; rw [if_pos ⟨hv, he⟩]
      rw [hv] at A
      clear hv
      by_cases hl : u < v
      · have hl2 : ¬ v < u := by omega
        have E3 : Hid (min u v = u ∧ max u v = v) := ⟨by omega, by omega⟩
        clear he
        go_enter Try.func11, Try.ntmps11
        go_wp2_with (go_at_call 28; refine Calls.mono (A.out _) ?_; rintro e w' ⟨rfl, rfl⟩)
        (try simp only [Exit.inBlock, Exit.then])
        refine bodyPost_ret (v := .tuple #[.agg #[.int .i64 u, .int .i64 v], .int .i64 0]) ?_ rfl ⟨?_, ?_⟩
        · rw [results_cell_tmp rfl]
          go_simp
          exact E3.out
        · rw [E1.out, E2.out, E3.out.1, E3.out.2]
          rfl
        · exact (Below.refl _ _).alloc (Nat.le_refl _) _
      · have hl2 : v < u := by omega
        have E3 : Hid (min u v = v ∧ max u v = u) := ⟨by omega, by omega⟩
        clear he
        go_enter Try.func11, Try.ntmps11
        go_wp2_with (go_at_call 28; refine Calls.mono (A.out _) ?_; rintro e w' ⟨rfl, rfl⟩)
        (try simp only [Exit.inBlock, Exit.then])
        refine bodyPost_ret (v := .tuple #[.agg #[.int .i64 v, .int .i64 u], .int .i64 0]) ?_ rfl ⟨?_, ?_⟩
        · rw [results_cell_tmp rfl]
          go_simp
          exact E3.out
        · rw [E1.out, E2.out, E3.out.1, E3.out.2]
          rfl
        · exact (Below.refl _ _).alloc (Nat.le_refl _) _

end Go.Proofs.Ytifeeneojlhffaa

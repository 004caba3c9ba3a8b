/-
  The walks of edge.Cmp and of the two closures of edge.last that lean on it.
-/
import Derived.Test.YtifeeneojlhffaaShelf
import Derived.Test.YtifeeneojlhffaaSets
import Derived.WalkKit
import Derived.WalkSpells
import Derived.WalkLawsBesides
import Derived.Deep.RegionHeld3
namespace Go.Proofs.Ytifeeneojlhffaa
open Go.Shelf Go.RowKit Go.Lib Go.Sort

def encP (x : Pr) : List Value := [.int .i64 x.1, .int .i64 x.2]
def encC (x : Ch) : List Value := [.int .i64 x.1.1, .int .i64 x.1.2, .bool x.2]

theorem compare_any (x y : Int) (w : World) : Calls Try.prog 36 #[.int .i64 x, .int .i64 y] w fun e w' => e = .returned (.int .i64 (Lib.compareInt x y)) ∧ w' = w := AnyG.cmp_Compare_int Try.cmpInt x y w

set_option maxHeartbeats 1000000 in
theorem or_any (b : Nat) (x y : Int) (w : World) (h0 : w.cell? ⟨b, 0, none⟩ = some (.int .i64 x)) (h1 : w.cell? ⟨b, 1, none⟩ = some (.int .i64 y)) :
    Calls Try.prog 35 #[.slice (some ⟨b, 0, none⟩) 2 2] w fun e w' => e = .returned (.int .i64 (if x = 0 then y else x)) ∧ w' = w := by
  by_cases hx : x = 0
  · subst hx
    by_cases hy : y = 0
    · subst hy
      go_enter Try.func35, Try.ntmps35
      go_wp2
      refine wp_loop_rounds 3 ?_
      repeat any_goals (rw [rounds_succ]; go_wp2)
      go_ret
      exact ⟨by simp, rfl⟩
    · have hyb : (y != 0) = true := by simpa using hy
      go_enter Try.func35, Try.ntmps35
      go_wp2
      refine wp_loop_rounds 3 ?_
      repeat any_goals (rw [rounds_succ]; go_wp2)
      go_ret
      exact ⟨by simp, rfl⟩
  · have hxb : (x != 0) = true := by simpa using hx
    go_enter Try.func35, Try.ntmps35
    go_wp2
    refine wp_loop_rounds 3 ?_
    repeat any_goals (rw [rounds_succ]; go_wp2)
    go_ret
    exact ⟨by simp, rfl⟩

/-- Draws and new blocks alone. -/
def GR (w w' : World) : Prop := ∃ q os', w' = grow (w.drewN q) os'
theorem GR.refl (w : World) : GR w w := ⟨0, #[], by rw [grow_empty]; rfl⟩
theorem GR.drew {w w' : World} (h : GR w w') : GR w w'.drew := by
  obtain ⟨q, os, rfl⟩ := h
  exact ⟨q + 1, os, rfl⟩
theorem GR.alloc {w w' : World} (h : GR w w') (o : Obj) : GR w (w'.alloc o) := by
  obtain ⟨q, os, rfl⟩ := h
  exact ⟨q, os ++ #[o], by rw [alloc_eq_grow, grow_grow]⟩
theorem GR.trans {u v w : World} (h : GR u v) (k : GR v w) : GR u w := by
  obtain ⟨q, os, rfl⟩ := h
  obtain ⟨p, os', rfl⟩ := k
  exact ⟨q + p, os ++ os', by show grow (grow ((u.drewN q).drewN p) os) os' = _; rw [grow_grow, World.drewN_drewN]⟩
theorem GR.below {w w' : World} (h : GR w w') : Below w.heap.size w w' := by
  obtain ⟨q, os, rfl⟩ := h
  exact ⟨rfl, rfl, rfl, by rw [size_grow]; exact Nat.le_add_right _ _, fun k hk => heap_grow_old _ _ (by simpa using hk)⟩

theorem new0 (W : World) (x y : Value) (t : TypeId) (n : Nat) (h : n = W.heap.size) : (W.alloc (.cells #[x, y] t)).cell? ⟨n, 0, none⟩ = some x := by subst h; simp
theorem new1 (W : World) (x y : Value) (t : TypeId) (n : Nat) (h : n = W.heap.size) : (W.alloc (.cells #[x, y] t)).cell? ⟨n, 1, none⟩ = some y := by subst h; simp
theorem bx2 (w : World) (a b c d : Int) : GR w ((w.alloc (.cells #[.int .i64 a, .int .i64 b] 25)).alloc (.cells #[.int .i64 c, .int .i64 d] 25)).drew ∧ ((w.alloc (.cells #[.int .i64 a, .int .i64 b] 25)).alloc (.cells #[.int .i64 c, .int .i64 d] 25)).drew.cell? ⟨w.heap.size, 0, none⟩ = some (.int .i64 a) ∧ ((w.alloc (.cells #[.int .i64 a, .int .i64 b] 25)).alloc (.cells #[.int .i64 c, .int .i64 d] 25)).drew.cell? ⟨w.heap.size, 1, none⟩ = some (.int .i64 b) ∧ ((w.alloc (.cells #[.int .i64 a, .int .i64 b] 25)).alloc (.cells #[.int .i64 c, .int .i64 d] 25)).drew.cell? ⟨w.heap.size + 1, 0, none⟩ = some (.int .i64 c) ∧ ((w.alloc (.cells #[.int .i64 a, .int .i64 b] 25)).alloc (.cells #[.int .i64 c, .int .i64 d] 25)).drew.cell? ⟨w.heap.size + 1, 1, none⟩ = some (.int .i64 d) :=
  ⟨(((GR.refl w).alloc _).alloc _).drew, by simp, by simp, by simp, by simp⟩
theorem bx3 (w : World) (o o' o2 : Obj) (a b c d : Int) (h : GR w ((w.alloc o).alloc o').drew ∧ ((w.alloc o).alloc o').drew.cell? ⟨w.heap.size, 0, none⟩ = some (.int .i64 a) ∧ ((w.alloc o).alloc o').drew.cell? ⟨w.heap.size, 1, none⟩ = some (.int .i64 b) ∧ ((w.alloc o).alloc o').drew.cell? ⟨w.heap.size + 1, 0, none⟩ = some (.int .i64 c) ∧ ((w.alloc o).alloc o').drew.cell? ⟨w.heap.size + 1, 1, none⟩ = some (.int .i64 d)) :
    GR w (((w.alloc o).alloc o').alloc o2).drew ∧ (((w.alloc o).alloc o').alloc o2).drew.cell? ⟨w.heap.size, 0, none⟩ = some (.int .i64 a) ∧ (((w.alloc o).alloc o').alloc o2).drew.cell? ⟨w.heap.size, 1, none⟩ = some (.int .i64 b) ∧ (((w.alloc o).alloc o').alloc o2).drew.cell? ⟨w.heap.size + 1, 0, none⟩ = some (.int .i64 c) ∧ (((w.alloc o).alloc o').alloc o2).drew.cell? ⟨w.heap.size + 1, 1, none⟩ = some (.int .i64 d) :=
  ⟨((((GR.refl w).alloc _).alloc _).alloc _).drew, Lib.cell?_alloc_some o2 h.2.1, Lib.cell?_alloc_some o2 h.2.2.1, Lib.cell?_alloc_some o2 h.2.2.2.1, Lib.cell?_alloc_some o2 h.2.2.2.2⟩

set_option maxHeartbeats 4000000 in
set_option maxRecDepth 100000 in
theorem cmp_any (x y : Pr) (w : World) : Calls Try.prog 16 #[.agg (encP x).toArray, .agg (encP y).toArray] w fun e w' => e = .returned (.int .i64 (cfP x y)) ∧ ∃ q os', w' = grow (w.drewN q) os' := by
  obtain ⟨a, b⟩ := x
  obtain ⟨c, d⟩ := y
  show Calls Try.prog 16 #[.agg #[.int .i64 a, .int .i64 b], .agg #[.int .i64 c, .int .i64 d]] w _
  have D1 : Aside (∀ x y W, Calls Try.prog 36 #[.int .i64 x, .int .i64 y] W fun e w' => e = .returned (.int .i64 (Lib.compareInt x y)) ∧ w' = W) := compare_any
  have D3 : Aside (∀ (B : Nat) (x y : Int) (W : World), W.cell? ⟨B, 0, none⟩ = some (.int .i64 x) → W.cell? ⟨B, 1, none⟩ = some (.int .i64 y) → Calls Try.prog 35 #[.slice (some ⟨B, 0, none⟩) 2 2] W fun e w' => e = .returned (.int .i64 (if x = 0 then y else x)) ∧ w' = W) := fun B x y W => or_any B x y W
  unfold cfP
  simp only
  generalize Lib.compareInt = f at D1 ⊢
  obtain ⟨orf, hor⟩ : ∃ g : Int → Int → Int, ∀ x y, (if x = 0 then y else x) = g x y := ⟨fun x y => if x = 0 then y else x, fun _ _ => rfl⟩
  simp only [hor] at D3 ⊢
  clear hor
  go_enter Try.func16, Try.ntmps16
  go_wp2_with fail
  go_region_held3 (fun w' => GR w w' ∧ w'.cell? ⟨w.heap.size, 0, none⟩ = some (.int .i64 a) ∧ w'.cell? ⟨w.heap.size, 1, none⟩ = some (.int .i64 b) ∧ w'.cell? ⟨w.heap.size + 1, 0, none⟩ = some (.int .i64 c) ∧ w'.cell? ⟨w.heap.size + 1, 1, none⟩ = some (.int .i64 d)) (first | assumption | exact bx2 w a b c d | exact bx3 w _ _ _ a b c d (bx2 w a b c d)) ((first | (go_at_call 36; refine (D1.out _ _ _).mono ?_; rintro e w' ⟨rfl, rfl⟩) | (go_at_call 35; refine (D3.out _ (f a c) (f b d) _ ?hA ?hB).mono ?_; (case hA => exact new0 _ _ _ _ _ (by simp)); (case hB => exact new1 _ _ _ _ _ (by simp)); rintro e w' ⟨rfl, rfl⟩)))
  all_goals (go_wp2; go_ret; exact ⟨rfl, And.left (by assumption)⟩)

end Go.Proofs.Ytifeeneojlhffaa

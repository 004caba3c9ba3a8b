/-
  The walk of package node's Right, of a leaf.
-/
import Derived.Test.YtljmkajpjjdnhaaGreatDoorTdWith
import Derived.Test.YtljmkajpjjdnhaaGreatDoorBEnR
namespace Go.Proofs.YtljmkajpjjdnhaaGreatDoor.N
open Go.Shelf Go.RowKit Go.Lib Go.Sort
set_option linter.unusedVariables false

set_option maxHeartbeats 1000000 in
theorem tdEntries_any (v : Value) (l : List En) (w : World) (h : Row encP 2 w v l) (hl : l.length ≤ 100000) :
    Calls Tryz.prog 27 #[v] w fun e w' => e = .returned (.bool (rgB l)) ∧ Below w.heap.size w w' := by
  have C : Hid _ := encode_any v l w h hl
  obtain ⟨ao, cap, rfl, _⟩ := Row.shape h
  clear h
  cases hr : rgB l with
  | false =>
    have EE : ecE l = 1 := by unfold ecE; rw [hr]; rfl
    rw [EE] at C
    generalize ecS l = sx at *
    clear hr EE
    go_enter Tryz.func27, Tryz.ntmps27
    go_wp2_with (go_at_call 35; refine Calls.mono C.out ?_; rintro e w1 ⟨rfl, hb⟩)
    go_ret
    exact ⟨rfl, hb⟩
  | true =>
    have EE : ecE l = 0 := by unfold ecE; rw [hr]; rfl
    rw [EE] at C
    generalize ecS l = sx at *
    clear hr EE
    go_enter Tryz.func27, Tryz.ntmps27
    go_wp2_with (go_at_call 35; refine Calls.mono C.out ?_; rintro e w1 ⟨rfl, hb⟩)
    go_ret
    exact ⟨rfl, hb⟩

set_option maxRecDepth 100000 in
set_option maxHeartbeats 1000000 in
theorem leafRight_c (v : Value) (l : List En) (w : World) (h : Row encP 2 w v l) (hl : l.length ≤ 100000) :
    Calls Tryz.prog 15 #[ndV v] w fun e w' => e = .returned (.bool (rgB l)) ∧ Below w.heap.size w w' := by
  have C : Hid _ := tdEntries_any v l (w.alloc (ndO v)) (h.below ((Below.refl _ _).alloc (Nat.le_refl _) _)) hl
  have HB : Hid (Below w.heap.size w (w.alloc (ndO v))) := (Below.refl _ _).alloc (Nat.le_refl _) _
  obtain ⟨ao, cap, rfl, _⟩ := Row.shape h
  clear h
  generalize rgB l = r at *
  go_enter Tryz.func15, Tryz.ntmps15
  go_wp2_with (go_at_call 27; refine Calls.mono C.out ?_; rintro e w1 ⟨rfl, hb⟩)
  all_goals
    go_ret
    exact ⟨by cases r <;> rfl, HB.out.trans (hb.mono HB.out.size)⟩

end Go.Proofs.YtljmkajpjjdnhaaGreatDoor.N

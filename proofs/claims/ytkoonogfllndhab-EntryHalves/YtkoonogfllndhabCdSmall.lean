/-
  The walk of package codec's isSize.
-/
import Derived.Test.YtkoonogfllndhabRows
import Derived.WalkKit
import Derived.WalkSpells
import Derived.WalkLawsBesides
namespace Go.Proofs.Ytkoonogfllndhab
open Go.RowKit

/-- A size that the codec knows. -/
def szB (n : Int) : Bool := decide (n = 1 ∨ n = 2 ∨ n = 4)

theorem ret_bool {a b : Bool} (h : a = b) : Ending.returned (.bool a) = .returned (.bool b) := by rw [h]

theorem ret_int {k : IntKind} {a b : Int} (h : a = b) : Ending.returned (.int k a) = .returned (.int k b) := by rw [h]

set_option maxHeartbeats 400000 in
theorem isSize_any (n : Int) (w : World) :
    Calls Try.prog 25 #[.int .i64 n] w fun e w' => e = .returned (.bool (szB n)) ∧ w = w' := by
  by_cases h1 : n = 1
  · subst h1
    go_enter Try.func25, Try.ntmps25
    go_wp2
    go_ret
    exact ⟨rfl, rfl⟩
  · by_cases h2 : n = 2
    · subst h2
      go_enter Try.func25, Try.ntmps25
      go_wp2
      go_ret
      exact ⟨rfl, rfl⟩
    · by_cases h4 : n = 4
      · subst h4
        go_enter Try.func25, Try.ntmps25
        go_wp2
        go_ret
        exact ⟨rfl, rfl⟩
      · have e1 : (n == 1) = false := beq_eq_false_iff_ne.2 h1
        have e2 : (n == 2) = false := beq_eq_false_iff_ne.2 h2
        have e4 : (n == 4) = false := beq_eq_false_iff_ne.2 h4
        have hs : szB n = false := by simp [szB, h1, h2, h4]
        have HS : Hid (szB n = false) := hs
        clear hs h1 h2 h4
        go_enter Try.func25, Try.ntmps25
        go_wp2
        go_ret
        exact ⟨ret_bool HS.out.symm, rfl⟩

end Go.Proofs.Ytkoonogfllndhab

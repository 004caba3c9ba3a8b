/-
  The walks of package entry's small functions: Check, Find, right.
-/
import Derived.Test.YtmamnlphhiaeoaaEnOwn
import Derived.Test.YtmamnlphhiaeoaaShelf
import Derived.Deep.LoopGhost
import Derived.BigQuiet
namespace Go.Proofs.Ytmamnlphhiaeoaa
open Go.Shelf Go.RowKit Go.Lib Go.Sort

/-- What Check answers. -/
def chkE (k v : ByteArray) : Int := if mayB k v = true then 0 else 110

theorem ret_b {a b : Bool} (h : a = b) : Ending.returned (.bool a) = Ending.returned (.bool b) := by rw [h]
theorem ret_i {a b : Int} (h : a = b) : Ending.returned (.int .i64 a) = Ending.returned (.int .i64 b) := by rw [h]

theorem chkE_no {k v : ByteArray} (h : ¬ (1 ≤ k.size ∧ k.size ≤ 16 ∧ v.size ≤ 40)) : chkE k v = 110 := by
  unfold chkE
  rw [if_neg fun c => h (mayB_iff.1 c)]
theorem chkE_yes {k v : ByteArray} (h : 1 ≤ k.size ∧ k.size ≤ 16 ∧ v.size ≤ 40) : chkE k v = 0 := by
  unfold chkE
  rw [if_pos (mayB_iff.2 h)]

theorem toL_size (s : ByteArray) : s.toList.length = s.size := by rw [Lib.toList_data, Lib.size_eq]

theorem empty_of {k : ByteArray} (h : k.size = 0) : k = ⟨#[]⟩ := by
  apply ByteArray.ext
  apply Array.toList_inj.1
  rw [Lib.size_eq] at h
  exact List.eq_nil_of_length_eq_zero h
theorem toL_ne {k : ByteArray} (h : k.size ≠ 0) : ¬ k.toList = [] := by
  intro e
  have := congrArg List.length e
  rw [toL_size] at this
  exact h this
theorem toL_full {k : ByteArray} (h : k.size ≠ 0) : k.toList.isEmpty = false := by
  cases e : k.toList with
  | nil => exact absurd e (toL_ne h)
  | cons a l => rfl

set_option maxHeartbeats 1000000 in
theorem check_any (k v : ByteArray) (w : World) : Calls Try.prog 53 #[.string k, .string v] w fun e w' => e = .returned (.int .i64 (chkE k v)) ∧ w = w' := by
  by_cases h1 : k.size = 0
  · have E : Hid (chkE k v = 110) := chkE_no (by omega)
    obtain rfl : k = ⟨#[]⟩ := empty_of h1
    clear h1
    go_enter Try.func53, Try.ntmps53
    go_wp2
    go_ret
    exact ⟨ret_i E.out.symm, rfl⟩
  · have e1 := toL_full h1
    have e2 := toL_ne h1
    by_cases h2 : (16 : Int) < (k.size : Int)
    · have E : Hid (chkE k v = 110) := chkE_no (by omega)
      go_enter Try.func53, Try.ntmps53
      go_wp2
      go_ret
      exact ⟨ret_i E.out.symm, rfl⟩
    · by_cases h3 : (40 : Int) < (v.size : Int)
      · have E : Hid (chkE k v = 110) := chkE_no (by omega)
        go_enter Try.func53, Try.ntmps53
        go_wp2
        go_ret
        exact ⟨ret_i E.out.symm, rfl⟩
      · have E : Hid (chkE k v = 0) := chkE_yes (by omega)
        go_enter Try.func53, Try.ntmps53
        go_wp2
        go_ret
        exact ⟨ret_i E.out.symm, rfl⟩

/-- What is found: the place, and whether the key stands there. -/
def Fnd (l : List En) (k : ByteArray) (i : Nat) (f : Bool) : Prop := i ≤ l.length ∧ (f = true → i < l.length) ∧ (Rg l → i = fdN l k ∧ f = fdB l k)

theorem Fnd.at {l : List En} {k : ByteArray} {i : Nat} {f : Bool} (hi : i ≤ l.length) (h1 : Rg l → (∀ t, t < i → ltK l[t]!.1 k = true) ∧ (∀ t, i ≤ t → t < l.length → ltK l[t]!.1 k = false)) (hf : f = true ↔ i < l.length ∧ l[i]!.1 = k) : Fnd l k i f := by
  refine ⟨hi, fun e => (hf.1 e).1, fun hr => ?_⟩
  have e := fdN_of hr hi (h1 hr).1 (h1 hr).2
  refine ⟨e, ?_⟩
  rw [Bool.eq_iff_iff, hf, fdB_at hr k, ← e]

end Go.Proofs.Ytmamnlphhiaeoaa

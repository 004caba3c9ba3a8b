/-
  The walks of the document's functions: May, Right, Same, Get, Delete, Put, Size, Half.
-/
import Derived.Test.YtkoonogfllndhabEnSize
namespace Go.Proofs.Ytkoonogfllndhab
open Go.Shelf Go.RowKit Go.Lib Go.Sort

theorem str_no {a b : ByteArray} (h : a ≠ b) : (a.toList == b.toList) = false := by rw [str_eq]; exact decide_eq_false h

theorem gt_drop {l : List En} {k : ByteArray} {i : Nat} (h : i < l.length) : gtV (l.drop i) k = (if l[i]!.1 = k then l[i]!.2 else gtV (l.drop (i + 1)) k) ∧ fdB (l.drop i) k = (decide (l[i]!.1 = k) || fdB (l.drop (i + 1)) k) := by
  rw [drop_here h]
  exact ⟨rfl, by simp [fdB]⟩

theorem dl_take {l : List En} {k : ByteArray} {i : Nat} (h : i < l.length) : dlL (l.take (i + 1)) k = dlL (l.take i) k ++ (if l[i]!.1 = k then [] else [l[i]!]) := by
  rw [take_next h]
  unfold dlL
  rw [List.filter_append]
  congr 1
  generalize l[i]! = x
  by_cases c : x.1 = k
  · rw [if_pos c]; simp [c]
  · rw [if_neg c]; simp [c]
theorem dl_len (l : List En) (k : ByteArray) : (dlL l k).length ≤ l.length := List.length_filter_le _ _

theorem ltK_not {a b : ByteArray} : ltK a b = !(ltK b a || decide (b = a)) := by
  cases h : ltK a b
  · by_cases e : b = a
    · simp [e]
    · rw [ltK_of_not h fun e2 => e e2.symm]; rfl
  · rw [ltK_asymm h, decide_eq_false fun e => ltK_ne h e.symm]; rfl

theorem ins_drop {r : List En} {x : En} {i : Nat} (h : i < r.length) : insL x (r.drop i) = (if ltK x.1 r[i]!.1 = true then x :: r[i]! :: r.drop (i + 1) else r[i]! :: insL x (r.drop (i + 1))) := by
  rw [drop_here h]; rfl

end Go.Proofs.Ytkoonogfllndhab

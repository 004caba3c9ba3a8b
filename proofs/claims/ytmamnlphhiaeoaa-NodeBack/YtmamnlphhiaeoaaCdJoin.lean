/-
  The walks of codec.Join, codec.Text and of the Reader's Text.
-/
import Derived.Test.YtmamnlphhiaeoaaCdPut
import Derived.Test.YtmamnlphhiaeoaaShelf
namespace Go.Proofs.Ytmamnlphhiaeoaa
open Go.RowKit

/-- All, one behind the other. -/
def cat (xs : List ByteArray) : List UInt8 := (xs.map (·.data.toList)).flatten

theorem join_cat (xs : List ByteArray) : Lib.join (xs.map (·.data.toList)) (ByteArray.data ⟨#[]⟩).toList = cat xs := by
  cases xs with
  | nil => rfl
  | cons x r =>
    rw [List.map_cons, Lib.join_cons]
    simp [cat, Lib.joinTail]
    rfl

set_option maxHeartbeats 400000 in
theorem join_any (bk o c m : Nat) (xs : List ByteArray) (w : World) (hcells : ∀ (j : Nat) x, xs[j]? = some x → w.cell? ⟨bk, o + j, none⟩ = some (.string x)) (hbk : bk < w.heap.size) (hm : xs.length = m) (hN : xs.length ≤ 140737488355328) (hcap : xs.length ≤ c) (hlen : (cat xs).length ≤ 140737488355328) :
    Calls Try.prog 56 #[.slice (some ⟨bk, o, none⟩) m c] w fun r w' => r = .returned (.string ⟨(cat xs).toArray⟩) ∧ Below w.heap.size w w' := by
  subst hm
  have C : Hid _ := Try.strings_Join bk o c xs ⟨#[]⟩ w hcells hbk hN hcap (by rw [join_cat]; exact hlen)
  rw [join_cat] at C
  clear hcells hlen
  go_enter Try.func56, Try.ntmps56
  go_wp2_with (go_at_call 65; refine Calls.mono C.out ?_; rintro e w' ⟨rfl, hb⟩)
  go_ret
  exact ⟨rfl, hb⟩

set_option maxHeartbeats 400000 in
theorem join_none (a : Option Addr) (c : Nat) (w : World) :
    Calls Try.prog 56 #[.slice a 0 c] w fun r w' => r = .returned (.string ⟨#[]⟩) ∧ w = w' := by
  go_enter Try.func56, Try.ntmps56
  go_wp2_with (go_at_call 65; refine (Try.strings_Join_none a c _ w).mono ?_; rintro e w' ⟨rfl, rfl⟩)
  go_ret
  exact ⟨rfl, rfl⟩

theorem join2 (x y : ByteArray) (w : World) (hl : x.size + y.size ≤ 140737488355328) :
    Calls Try.prog 56 #[.slice (some ⟨w.heap.size, 0, none⟩) 2 2] (w.alloc (.cells #[.string x, .string y] 9)) fun r w' => r = .returned (.string ⟨(x.data.toList ++ y.data.toList).toArray⟩) ∧ Below w.heap.size w w' := by
  have hc : cat [x, y] = x.data.toList ++ y.data.toList := by simp [cat]
  have h := join_any w.heap.size 0 2 2 [x, y] (w.alloc (.cells #[.string x, .string y] 9)) (fun j z hj => ?_) (by simp) rfl (by simp) (by simp) (by rw [hc]; simpa using hl)
  · rw [hc] at h
    exact h.mono fun r w' ⟨a, b⟩ => ⟨a, ((Below.refl _ _).alloc (Nat.le_refl _) _).trans (b.mono (by simp))⟩
  · rw [World.cell?_alloc_at _ 9 _ (0 + j) rfl, Nat.zero_add]
    match j, hj with
    | 0, hj => simp at hj ⊢; exact hj
    | 1, hj => simp at hj ⊢; exact hj

theorem join3 (x y z : ByteArray) (w : World) (hl : x.size + (y.size + z.size) ≤ 140737488355328) :
    Calls Try.prog 56 #[.slice (some ⟨w.heap.size, 0, none⟩) 3 3] (w.alloc (.cells #[.string x, .string y, .string z] 9)) fun r w' => r = .returned (.string ⟨(x.data.toList ++ (y.data.toList ++ z.data.toList)).toArray⟩) ∧ Below w.heap.size w w' := by
  have hc : cat [x, y, z] = x.data.toList ++ (y.data.toList ++ z.data.toList) := by simp [cat]
  have h := join_any w.heap.size 0 3 3 [x, y, z] (w.alloc (.cells #[.string x, .string y, .string z] 9)) (fun j u hj => ?_) (by simp) rfl (by simp) (by simp) (by rw [hc]; simpa using hl)
  · rw [hc] at h
    exact h.mono fun r w' ⟨a, b⟩ => ⟨a, ((Below.refl _ _).alloc (Nat.le_refl _) _).trans (b.mono (by simp))⟩
  · rw [World.cell?_alloc_at _ 9 _ (0 + j) rfl, Nat.zero_add]
    match j, hj with
    | 0, hj => simp at hj ⊢; exact hj
    | 1, hj => simp at hj ⊢; exact hj
    | 2, hj => simp at hj ⊢; exact hj

end Go.Proofs.Ytmamnlphhiaeoaa

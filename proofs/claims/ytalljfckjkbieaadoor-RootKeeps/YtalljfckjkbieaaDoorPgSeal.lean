/-
  The walks of page.noughts and page.Seal.
-/
import Derived.Test.YtalljfckjkbieaaDoorPg
import Derived.Test.YtalljfckjkbieaaDoorCrSum
namespace Go.Proofs.YtalljfckjkbieaaDoor
open Go.RowKit

theorem repeat_zero (n : Nat) : Lib.repeatL [0] n = List.replicate n (0 : UInt8) := by
  have := Lib.repeatL_replicate 0 1 n
  simpa using this

theorem join_new (xs : List ByteArray) (vs : Array Value) (w : World) (n : Nat) (hn : xs.length = n) (hv : vs = (xs.map Value.string).toArray) (hs : n ≤ 8) (hl : (cat xs).length ≤ 140737488355328) :
    Calls Tryd.prog 24 #[.slice (some ⟨w.heap.size, 0, none⟩) n n] (w.alloc (.cells vs 9)) fun r w' => r = .returned (.string ⟨(cat xs).toArray⟩) ∧ Below w.heap.size w w' := by
  subst hn hv
  have h := join_any w.heap.size 0 xs.length xs.length xs (w.alloc (.cells (xs.map Value.string).toArray 9)) (fun j z hj => ?_) (by simp) rfl (by omega) (Nat.le_refl _) hl
  · exact h.mono fun r w' ⟨a, b⟩ => ⟨a, ((Below.refl _ _).alloc (Nat.le_refl _) _).trans (b.mono (by simp))⟩
  · rw [World.cell?_alloc_at _ 9 _ (0 + j) rfl, Nat.zero_add]
    simp [hj]

theorem one_byte (k : UInt8) : beBytes 1 k.toNat = [k] := by simp [beBytes]

theorem cat_rest (n : Nat) (k : UInt8) (b : ByteArray) :
    cat [⟨(beBytes 4 n).toArray⟩, ⟨(beBytes 1 k.toNat).toArray⟩, ⟨(List.replicate 1 (0 : UInt8)).toArray⟩, ⟨(beBytes 2 b.size).toArray⟩, ⟨(List.replicate 4 (0 : UInt8)).toArray⟩, b, ⟨(List.replicate (240 - b.size) (0 : UInt8)).toArray⟩] = restL n k b.data.toList := by
  rw [one_byte]
  simp only [cat, List.map_cons, List.map_nil, List.flatten_cons, List.flatten_nil, List.append_nil, restL]
  rw [show b.data.toList.length = b.size by simp]
  rfl

theorem cat_page (n : Nat) (k : UInt8) (b : List UInt8) : cat [⟨(beBytes 4 (sumN (restL n k b))).toArray⟩, ⟨(restL n k b).toArray⟩] = pageL n k b := by
  simp only [cat, List.map_cons, List.map_nil, List.flatten_cons, List.flatten_nil, List.append_nil, pageL]

end Go.Proofs.YtalljfckjkbieaaDoor

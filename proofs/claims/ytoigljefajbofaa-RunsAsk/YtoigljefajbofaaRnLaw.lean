/-
  What the laws share: the contracts in one form.
-/
import Derived.Test.YtoigljefajbofaaRnWorks
import Derived.Test.YtoigljefajbofaaRnMinusRef
namespace Go.Proofs.Ytoigljefajbofaa
open Go.Shelf Go.RowKit Go.Lib Go.Sort

theorem len_app (l m : List Pr) : (l ++ m).length = l.length + m.length := List.length_append

theorem len_one (n : Int) : ([(n, n)] : List Pr).length = 1 := rfl

theorem rminus_g (va vb : Value) (a b : List Pr) (w : World) (ha : Row encP 2 w va a) (hb : Row encP 2 w vb b) (hl : a.length + b.length ≤ 10000) : Calls Try.prog 14 #[va, vb] w (Gives w (mnL a b)) := (rminus_any va vb a b w ha hb (by omega) (by omega)).mono fun _ _ h => gives_row h

theorem same_eq (va vb : Value) (l m : List Pr) (w : World) (ha : Row encP 2 w va l) (hb : Row encP 2 w vb m) (hl : l.length ≤ 1000000) (h : l = m) : Calls Try.prog 10 #[va, vb] w fun e w' => e = .returned (.bool true) ∧ Below w.heap.size w w' := by
  subst h
  exact same_ex va vb l w ha hb hl

theorem count_cn (v : Value) (s : List Pr) (w : World) (h : Row encP 2 w v s) (hc : Cn s) (hl : s.length ≤ 100000) : Calls Try.prog 22 #[v] w fun e w' => e = .returned (.int .i64 (cntL s)) ∧ Below w.heap.size w w' := by
  have := count_any v s w h hl
  rw [nmL_of_cn hc] at this
  exact this

end Go.Proofs.Ytoigljefajbofaa

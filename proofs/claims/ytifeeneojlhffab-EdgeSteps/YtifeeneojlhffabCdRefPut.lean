/-
  The walk of the document's Put.
-/
import Derived.Test.YtifeeneojlhffabCdLaws
namespace Go.Proofs.Ytifeeneojlhffab
open Go.RowKit

theorem beBytes_front (k : Nat) : ∀ n, beBytes (k + 1) n = UInt8.ofNat (n / 256 ^ k % 256) :: beBytes k n := by
  induction k with
  | zero => intro n; simp [beBytes]
  | succ k ih =>
    intro n
    rw [beBytes, ih (n / 256), Nat.div_div_eq_div_mul, Nat.mul_comm, ← Nat.pow_succ]
    rw [beBytes]
    simp

/-- Whether a number fits into z bytes, as the document's Put reckons it. -/
def qok (z N : Nat) : Bool := ((N / 256 ^ z : Nat) : Int) == 0
theorem ba_cons (c : UInt8) (l : List UInt8) : (⟨#[c]⟩ : ByteArray) ++ ⟨l.toArray⟩ = ⟨(c :: l).toArray⟩ := by
  apply ba_ext
  rw [ByteArray.data_append]
  simp
theorem ret_put (s : ByteArray) (a b : Bool) (h : a = b) : Ending.returned (.tuple #[.string s, .bool a]) = .returned (.tuple #[.string s, .bool b]) := by rw [h]

end Go.Proofs.Ytifeeneojlhffab

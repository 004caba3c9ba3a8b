/-
  Two texts that differ; the walk of the document's Int. (As in layer 5's texts, for a program without pages.)
-/
import Derived.Test.YtmamnlphhiaeoaaCdRefPut
namespace Go.Proofs.Ytmamnlphhiaeoaa
open Go.RowKit

theorem str_ne {a b : ByteArray} (h : ¬ a = b) : (a.toList == b.toList) = false := by
  rw [beq_eq_false_iff_ne, Lib.toList_data, Lib.toList_data]
  intro e
  exact h (ba_ext e)

theorem beNat_take_le (l : List UInt8) (k : Nat) (h : k ≤ 4) : beNat (l.take k) < 4294967296 := by
  have h1 := beNat_lt (l.take k)
  have h2 : (l.take k).length ≤ 4 := by simp; omega
  have h3 : 256 ^ (l.take k).length ≤ 256 ^ 4 := Nat.pow_le_pow_right (by omega) h2
  have h4 : (256 : Nat) ^ 4 = 4294967296 := by decide
  omega

set_option maxHeartbeats 1000000 in
theorem refInt (x : ByteArray) (w : World) (hx : x.size ≤ 4) :
    Calls Try.prog 43 #[.string x] w fun r w' => r = .returned (.int .i64 ((beNat x.data.toList : Nat) : Int)) ∧ w = w' := by
  go_enter Try.func43, Try.ntmps43
  go_wp2
  go_loop [3, 4] (fun v i => ∃ k M : Nat, k ≤ x.size ∧ i = .int .i64 k ∧ v = .int .i64 M ∧ M < 4294967296 ∧ Hid (M = beNat (x.data.toList.take k))) (fun _ i => x.size - (intOf i).toNat)
  case atStart => exact ⟨0, 0, Nat.zero_le _, rfl, rfl, by decide, rfl⟩
  case round =>
    obtain ⟨k, M, hk, rfl, rfl, hM, eM⟩ := hrel
    by_cases hlt : k < x.size
    · have T : Hid (beNat (x.data.toList.take (k + 1)) = beNat (x.data.toList.take k) * 256 + x[k].toNat) := beNat_take x.data.toList k (by simpa using hlt)
      have B := beNat_take_le x.data.toList (k + 1) (by omega)
      have B2 := beNat_take_lt x.data.toList k (by omega)
      have C8 : x[k].toNat < 256 := UInt8.toNat_lt _
      rw [T.out] at B
      rw [← eM.out] at B B2
      go_wp2
      refine ⟨⟨k + 1, M * 256 + x[k].toNat, by omega, by go_num, by go_num, by omega, ?_⟩, by simp [intOf]; omega⟩
      rw [Hid, T.out, ← eM.out]
    · have T : Hid (x.data.toList.take k = x.data.toList) := List.take_of_length_le (by simp; omega)
      go_wp2
      go_ret
      rw [← T.out, ← eM.out]
      exact ⟨rfl, rfl⟩

end Go.Proofs.Ytmamnlphhiaeoaa

/-
  The walk of the document's Put.
-/
import Derived.Test.YtmamnlphhiaeoaaCdLaws
namespace Go.Proofs.Ytmamnlphhiaeoaa
open Go.RowKit

theorem beBytes_front (k : Nat) : ∀ n, beBytes (k + 1) n = UInt8.ofNat (n / 256 ^ k % 256) :: beBytes k n := by
  induction k with
  | zero => intro n; simp [beBytes]
  | succ k ih =>
    intro n
    rw [beBytes, ih (n / 256), Nat.div_div_eq_div_mul, Nat.mul_comm, ← Nat.pow_succ]
    rw [beBytes]
    simp

/-- Whether a number fits into z bytes, as the document's Put reckons it. -/
def qok (z N : Nat) : Bool := ((N / 256 ^ z : Nat) : Int) == 0
theorem ba_cons (c : UInt8) (l : List UInt8) : (⟨#[c]⟩ : ByteArray) ++ ⟨l.toArray⟩ = ⟨(c :: l).toArray⟩ := by
  apply ba_ext
  rw [ByteArray.data_append]
  simp
theorem ret_put (s : ByteArray) (a b : Bool) (h : a = b) : Ending.returned (.tuple #[.string s, .bool a]) = .returned (.tuple #[.string s, .bool b]) := by rw [h]

set_option maxRecDepth 100000 in
set_option maxHeartbeats 1000000 in
theorem qput4 (N : Nat) (w : World) (hN : (N : Int) ≤ 9223372036854775807) :
    Calls Try.prog 39 #[.int .i64 4, .int .i64 N] w fun r w' => r = .returned (.tuple #[.string ⟨(beBytes 4 N).toArray⟩, .bool (qok 4 N)]) ∧ Below w.heap.size w w' := by
  have hN0 : ¬ (N : Int) < 0 := by omega
  go_enter Try.func39, Try.ntmps39
  go_wp2
  go_loopw [1, 6, 7] (fun n s i wr => ∃ (k M : Nat) (S : List UInt8), k ≤ 4 ∧ i = .int .i64 k ∧ n = .int .i64 M ∧ s = .string ⟨S.toArray⟩ ∧ (M : Int) ≤ 9223372036854775807 ∧ Hid (M = N / 256 ^ k) ∧ S.length ≤ 4 ∧ Hid (S = beBytes k N) ∧ Hid (Below w.heap.size w wr)) (fun _ _ i _ => 4 - (intOf i).toNat)
  case atStart => exact ⟨0, N, [], by omega, rfl, rfl, rfl, hN, by simp [Hid], by simp, rfl, Below.refl _ _⟩
  case round =>
    obtain ⟨k, M, S, hk, rfl, rfl, rfl, hM, eM, lS, eS, hb⟩ := hrel
    have hM0 : ¬ (M : Int) < 0 := by omega
    by_cases hlt : k < 4
    · have hcv := conv_new [UInt8.ofNat (M % 256)] #[.int .u8 ((M : Int) % 256)] wr 1 1 (by simp) rfl
      go_wp2
      refine ⟨⟨k + 1, M / 256, UInt8.ofNat (M % 256) :: S, by omega, by go_num, by go_num, ?_, by omega, ?_, ?_, ?_, ?_⟩, by simp [intOf]; omega⟩
      · exact congrArg Value.string (ba_cons _ S)
      · rw [Hid, eM.out, Nat.div_div_eq_div_mul, ← Nat.pow_succ]
      · have := beBytes_length k N
        rw [← eS.out] at this
        simp; omega
      · rw [Hid, beBytes_front, ← eM.out, ← eS.out]
      · exact hb.out.alloc hb.out.size _
    · have hk' : k = 4 := by omega
      subst hk'
      go_wp2
      go_ret2
      rw [← eS.out]
      exact ⟨ret_put _ _ _ (by rw [qok, eM.out]), hb.out⟩

set_option maxRecDepth 100000 in
set_option maxHeartbeats 1000000 in
theorem qput2 (N : Nat) (w : World) (hN : (N : Int) ≤ 9223372036854775807) :
    Calls Try.prog 39 #[.int .i64 2, .int .i64 N] w fun r w' => r = .returned (.tuple #[.string ⟨(beBytes 2 N).toArray⟩, .bool (qok 2 N)]) ∧ Below w.heap.size w w' := by
  have hN0 : ¬ (N : Int) < 0 := by omega
  go_enter Try.func39, Try.ntmps39
  go_wp2
  go_loopw [1, 6, 7] (fun n s i wr => ∃ (k M : Nat) (S : List UInt8), k ≤ 2 ∧ i = .int .i64 k ∧ n = .int .i64 M ∧ s = .string ⟨S.toArray⟩ ∧ (M : Int) ≤ 9223372036854775807 ∧ Hid (M = N / 256 ^ k) ∧ S.length ≤ 4 ∧ Hid (S = beBytes k N) ∧ Hid (Below w.heap.size w wr)) (fun _ _ i _ => 2 - (intOf i).toNat)
  case atStart => exact ⟨0, N, [], by omega, rfl, rfl, rfl, hN, by simp [Hid], by simp, rfl, Below.refl _ _⟩
  case round =>
    obtain ⟨k, M, S, hk, rfl, rfl, rfl, hM, eM, lS, eS, hb⟩ := hrel
    have hM0 : ¬ (M : Int) < 0 := by omega
    by_cases hlt : k < 2
    · have hcv := conv_new [UInt8.ofNat (M % 256)] #[.int .u8 ((M : Int) % 256)] wr 1 1 (by simp) rfl
      go_wp2
      refine ⟨⟨k + 1, M / 256, UInt8.ofNat (M % 256) :: S, by omega, by go_num, by go_num, ?_, by omega, ?_, ?_, ?_, ?_⟩, by simp [intOf]; omega⟩
      · exact congrArg Value.string (ba_cons _ S)
      · rw [Hid, eM.out, Nat.div_div_eq_div_mul, ← Nat.pow_succ]
      · have := beBytes_length k N
        rw [← eS.out] at this
        simp; omega
      · rw [Hid, beBytes_front, ← eM.out, ← eS.out]
      · exact hb.out.alloc hb.out.size _
    · have hk' : k = 2 := by omega
      subst hk'
      go_wp2
      go_ret2
      rw [← eS.out]
      exact ⟨ret_put _ _ _ (by rw [qok, eM.out]), hb.out⟩

set_option maxHeartbeats 400000 in
theorem qput_neg (n : Int) (w : World) (hn : n < 0) :
    Calls Try.prog 39 #[.int .i64 4, .int .i64 n] w fun r w' => r = .returned (.tuple #[.string ⟨#[]⟩, .bool false]) ∧ w = w' := by
  go_enter Try.func39, Try.ntmps39
  go_wp2
  go_ret2
  exact ⟨rfl, rfl⟩

end Go.Proofs.Ytmamnlphhiaeoaa

/-
  The walk of the document's Put.
-/
import Derived.Test.YtciibbboimaccaaBackLaws
namespace Go.Proofs.Ytciibbboimaccaa
open Go.RowKit

theorem beBytes_front (k : Nat) : ∀ n, beBytes (k + 1) n = UInt8.ofNat (n / 256 ^ k % 256) :: beBytes k n := by
  induction k with
  | zero => intro n; simp [beBytes]
  | succ k ih =>
    intro n
    rw [beBytes, ih (n / 256), Nat.div_div_eq_div_mul, Nat.mul_comm, ← Nat.pow_succ]
    rw [beBytes]
    simp

/-- Whether a number fits into z bytes, as the document's Put reckons it. -/
def qok (z N : Nat) : Bool := ((N / 256 ^ z : Nat) : Int) == 0
theorem ba_cons (c : UInt8) (l : List UInt8) : (⟨#[c]⟩ : ByteArray) ++ ⟨l.toArray⟩ = ⟨(c :: l).toArray⟩ := by
  apply ba_ext
  rw [ByteArray.data_append]
  simp
theorem ret_put (s : ByteArray) (a b : Bool) (h : a = b) : Ending.returned (.tuple #[.string s, .bool a]) = .returned (.tuple #[.string s, .bool b]) := by rw [h]

set_option maxHeartbeats 400000 in
theorem qput_size (size n : Int) (w : World) (h : szB size = false) :
    Calls Try.prog 11 #[.int .i64 size, .int .i64 n] w fun r w' => r = .returned (.tuple #[.string ⟨#[]⟩, .bool false]) ∧ Below w.heap.size w w' := by
  have h1 : (size != 1) = true := by rw [bne_iff_ne]; intro e; subst e; simp [szB] at h
  have h2 : (size != 2) = true := by rw [bne_iff_ne]; intro e; subst e; simp [szB] at h
  have h4 : (size != 4) = true := by rw [bne_iff_ne]; intro e; subst e; simp [szB] at h
  clear h
  go_enter Try.func11, Try.ntmps11
  go_wp2
  go_ret2
  exact ⟨rfl, Below.refl _ _⟩

set_option maxHeartbeats 400000 in
theorem qput_neg (size n : Int) (w : World) (h : szB size = true) (hn : n < 0) :
    Calls Try.prog 11 #[.int .i64 size, .int .i64 n] w fun r w' => r = .returned (.tuple #[.string ⟨#[]⟩, .bool false]) ∧ Below w.heap.size w w' := by
  have hs : size = 1 ∨ size = 2 ∨ size = 4 := by simpa [szB] using h
  clear h
  rcases hs with rfl | rfl | rfl
  all_goals
    go_enter Try.func11, Try.ntmps11
    go_wp2
    go_ret2
    exact ⟨rfl, Below.refl _ _⟩

set_option maxHeartbeats 1000000 in
theorem qput1 (N : Nat) (w : World) (hN : (N : Int) ≤ 9223372036854775807) :
    Calls Try.prog 11 #[.int .i64 1, .int .i64 N] w fun r w' => r = .returned (.tuple #[.string ⟨(beBytes 1 N).toArray⟩, .bool (qok 1 N)]) ∧ Below w.heap.size w w' := by
  have hN0 : ¬ (N : Int) < 0 := by omega
  go_enter Try.func11, Try.ntmps11
  go_wp2
  go_loopw [1, 6, 7] (fun n s i wr => ∃ (k M : Nat) (S : List UInt8), k ≤ 1 ∧ i = .int .i64 k ∧ n = .int .i64 M ∧ s = .string ⟨S.toArray⟩ ∧ (M : Int) ≤ 9223372036854775807 ∧ Hid (M = N / 256 ^ k) ∧ S.length ≤ 4 ∧ Hid (S = beBytes k N) ∧ Hid (Below w.heap.size w wr)) (fun _ _ i _ => 1 - (intOf i).toNat)
  case atStart => exact ⟨0, N, [], by omega, rfl, rfl, rfl, hN, by simp [Hid], by simp, rfl, Below.refl _ _⟩
  case round =>
    obtain ⟨k, M, S, hk, rfl, rfl, rfl, hM, eM, lS, eS, hb⟩ := hrel
    have hM0 : ¬ (M : Int) < 0 := by omega
    by_cases hlt : k < 1
    · have hcv := conv_new [UInt8.ofNat (M % 256)] #[.int .u8 ((M : Int) % 256)] wr 1 1 (by simp) rfl
      go_wp2
      refine ⟨⟨k + 1, M / 256, UInt8.ofNat (M % 256) :: S, by omega, by go_num, by go_num, ?_, by omega, ?_, ?_, ?_, ?_⟩, by simp [intOf]; omega⟩
      · exact congrArg Value.string (ba_cons _ S)
      · rw [Hid, eM.out, Nat.div_div_eq_div_mul, ← Nat.pow_succ]
      · have := beBytes_length k N
        rw [← eS.out] at this
        simp; omega
      · rw [Hid, beBytes_front, ← eM.out, ← eS.out]
      · exact hb.out.alloc hb.out.size _
    · have hk' : k = 1 := by omega
      subst hk'
      go_wp2
      go_ret2
      rw [← eS.out]
      exact ⟨ret_put _ _ _ (by rw [qok, eM.out]), hb.out⟩

set_option maxHeartbeats 1000000 in
theorem qput2 (N : Nat) (w : World) (hN : (N : Int) ≤ 9223372036854775807) :
    Calls Try.prog 11 #[.int .i64 2, .int .i64 N] w fun r w' => r = .returned (.tuple #[.string ⟨(beBytes 2 N).toArray⟩, .bool (qok 2 N)]) ∧ Below w.heap.size w w' := by
  have hN0 : ¬ (N : Int) < 0 := by omega
  go_enter Try.func11, Try.ntmps11
  go_wp2
  go_loopw [1, 6, 7] (fun n s i wr => ∃ (k M : Nat) (S : List UInt8), k ≤ 2 ∧ i = .int .i64 k ∧ n = .int .i64 M ∧ s = .string ⟨S.toArray⟩ ∧ (M : Int) ≤ 9223372036854775807 ∧ Hid (M = N / 256 ^ k) ∧ S.length ≤ 4 ∧ Hid (S = beBytes k N) ∧ Hid (Below w.heap.size w wr)) (fun _ _ i _ => 2 - (intOf i).toNat)
  case atStart => exact ⟨0, N, [], by omega, rfl, rfl, rfl, hN, by simp [Hid], by simp, rfl, Below.refl _ _⟩
  case round =>
    obtain ⟨k, M, S, hk, rfl, rfl, rfl, hM, eM, lS, eS, hb⟩ := hrel
    have hM0 : ¬ (M : Int) < 0 := by omega
    by_cases hlt : k < 2
    · have hcv := conv_new [UInt8.ofNat (M % 256)] #[.int .u8 ((M : Int) % 256)] wr 1 1 (by simp) rfl
      go_wp2
      refine ⟨⟨k + 1, M / 256, UInt8.ofNat (M % 256) :: S, by omega, by go_num, by go_num, ?_, by omega, ?_, ?_, ?_, ?_⟩, by simp [intOf]; omega⟩
      · exact congrArg Value.string (ba_cons _ S)
      · rw [Hid, eM.out, Nat.div_div_eq_div_mul, ← Nat.pow_succ]
      · have := beBytes_length k N
        rw [← eS.out] at this
        simp; omega
      · rw [Hid, beBytes_front, ← eM.out, ← eS.out]
      · exact hb.out.alloc hb.out.size _
    · have hk' : k = 2 := by omega
      subst hk'
      go_wp2
      go_ret2
      rw [← eS.out]
      exact ⟨ret_put _ _ _ (by rw [qok, eM.out]), hb.out⟩

set_option maxHeartbeats 1000000 in
theorem qput4 (N : Nat) (w : World) (hN : (N : Int) ≤ 9223372036854775807) :
    Calls Try.prog 11 #[.int .i64 4, .int .i64 N] w fun r w' => r = .returned (.tuple #[.string ⟨(beBytes 4 N).toArray⟩, .bool (qok 4 N)]) ∧ Below w.heap.size w w' := by
  have hN0 : ¬ (N : Int) < 0 := by omega
  go_enter Try.func11, Try.ntmps11
  go_wp2
  go_loopw [1, 6, 7] (fun n s i wr => ∃ (k M : Nat) (S : List UInt8), k ≤ 4 ∧ i = .int .i64 k ∧ n = .int .i64 M ∧ s = .string ⟨S.toArray⟩ ∧ (M : Int) ≤ 9223372036854775807 ∧ Hid (M = N / 256 ^ k) ∧ S.length ≤ 4 ∧ Hid (S = beBytes k N) ∧ Hid (Below w.heap.size w wr)) (fun _ _ i _ => 4 - (intOf i).toNat)
  case atStart => exact ⟨0, N, [], by omega, rfl, rfl, rfl, hN, by simp [Hid], by simp, rfl, Below.refl _ _⟩
  case round =>
    obtain ⟨k, M, S, hk, rfl, rfl, rfl, hM, eM, lS, eS, hb⟩ := hrel
    have hM0 : ¬ (M : Int) < 0 := by omega
    by_cases hlt : k < 4
    · have hcv := conv_new [UInt8.ofNat (M % 256)] #[.int .u8 ((M : Int) % 256)] wr 1 1 (by simp) rfl
      go_wp2
      refine ⟨⟨k + 1, M / 256, UInt8.ofNat (M % 256) :: S, by omega, by go_num, by go_num, ?_, by omega, ?_, ?_, ?_, ?_⟩, by simp [intOf]; omega⟩
      · exact congrArg Value.string (ba_cons _ S)
      · rw [Hid, eM.out, Nat.div_div_eq_div_mul, ← Nat.pow_succ]
      · have := beBytes_length k N
        rw [← eS.out] at this
        simp; omega
      · rw [Hid, beBytes_front, ← eM.out, ← eS.out]
      · exact hb.out.alloc hb.out.size _
    · have hk' : k = 4 := by omega
      subst hk'
      go_wp2
      go_ret2
      rw [← eS.out]
      exact ⟨ret_put _ _ _ (by rw [qok, eM.out]), hb.out⟩

/-- The bytes that the document's Put answers. -/
def qputS (size n : Int) : List UInt8 := if (szB size && decide (0 ≤ n)) = true then beBytes size.toNat n.toNat else []
theorem qok_iff (z N : Nat) : qok z N = decide (N < 256 ^ z) := by
  have h : 0 < 256 ^ z := Nat.pow_pos (by omega)
  unfold qok
  by_cases hl : N < 256 ^ z
  · rw [Nat.div_eq_of_lt hl, decide_eq_true hl]
    rfl
  · have h1 := Nat.div_pos (Nat.not_lt.1 hl) h
    rw [decide_eq_false hl]
    exact beq_eq_false_iff_ne.2 (by omega)

theorem qput_any (size n : Int) (w : World) (hn9 : n ≤ 9223372036854775807) :
    Calls Try.prog 11 #[.int .i64 size, .int .i64 n] w fun r w' => r = .returned (.tuple #[.string ⟨(qputS size n).toArray⟩, .bool (putB size n)]) ∧ Below w.heap.size w w' := by
  cases hz : szB size
  · have e1 : qputS size n = [] := by simp [qputS, hz]
    have e2 : putB size n = false := by simp [putB, hz]
    rw [e1, e2]
    exact qput_size size n w hz
  · by_cases hn : n < 0
    · have e1 : qputS size n = [] := by unfold qputS; rw [if_neg]; simp; intro _; omega
      have e2 : putB size n = false := by simp [putB]; intro _ _; omega
      rw [e1, e2]
      exact qput_neg size n w hz hn
    · obtain ⟨m, rfl⟩ := Int.eq_ofNat_of_zero_le (Int.not_lt.1 hn)
      have hs : size = 1 ∨ size = 2 ∨ size = 4 := by simpa [szB] using hz
      have e1 : qputS size (m : Int) = beBytes size.toNat m := by simp [qputS, hz]
      have e2 : putB size (m : Int) = qok size.toNat m := by
        rw [qok_iff, putB, hz, Bool.true_and]
        congr 1
        rw [eq_iff_iff]
        omega
      rw [e1, e2]
      rcases hs with rfl | rfl | rfl
      · exact qput1 m w hn9
      · exact qput2 m w hn9
      · exact qput4 m w hn9

end Go.Proofs.Ytciibbboimaccaa

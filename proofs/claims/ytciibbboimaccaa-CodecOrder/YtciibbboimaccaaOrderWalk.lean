/-
  The walk of the law CodecOrder: numbers of one size are ordered as their bytes are.
-/
import Derived.Test.YtciibbboimaccaaWorks
namespace Go.Proofs.Ytciibbboimaccaa
open Go.RowKit

theorem beNat_foldl (x : List UInt8) : ∀ i : Nat, x.foldl (fun a c => a * 256 + c.toNat) i = i * 256 ^ x.length + beNat x := by
  induction x with
  | nil => intro i; simp [beNat]
  | cons a x ih =>
    intro i
    have e : beNat (a :: x) = a.toNat * 256 ^ x.length + beNat x := by rw [beNat, List.foldl_cons, ih]; simp
    rw [List.foldl_cons, ih, e, List.length_cons, Nat.pow_succ, Nat.add_mul, Nat.mul_assoc, Nat.mul_comm 256, Nat.add_assoc]
theorem beNat_cons (a : UInt8) (x : List UInt8) : beNat (a :: x) = a.toNat * 256 ^ x.length + beNat x := by
  rw [beNat, List.foldl_cons, beNat_foldl]; simp

theorem mul_lt_step (a b p x y : Nat) (h : a < b) (hx : x < p) : a * p + x < b * p + y := by
  have h1 : (a + 1) * p ≤ b * p := Nat.mul_le_mul_right p h
  rw [Nat.add_mul, Nat.one_mul] at h1
  omega

theorem bytesLess_nat (x : List UInt8) : ∀ y : List UInt8, x.length = y.length → Op.bytesLess x y = decide (beNat x < beNat y) := by
  induction x with
  | nil => intro y h; rw [List.length_eq_zero_iff.1 h.symm]; rfl
  | cons a x ih =>
    intro y h
    cases y with
    | nil => simp at h
    | cons b y =>
      have hl : x.length = y.length := by simpa using h
      have hx := beNat_lt x
      have hy := beNat_lt y
      rw [Op.bytesLess, ih y hl, beNat_cons, beNat_cons, hl]
      rw [hl] at hx
      rcases Nat.lt_trichotomy a.toNat b.toNat with c | c | c
      · have e1 : a < b := UInt8.lt_iff_toNat_lt.2 c
        have e2 := mul_lt_step a.toNat b.toNat _ (beNat x) (beNat y) c hx
        simp [e1, e2]
      · have e1 : a = b := UInt8.toNat_inj.1 c
        subst e1
        simp
      · have e1 : ¬ a < b := by rw [UInt8.lt_iff_toNat_lt]; omega
        have e2 : a ≠ b := by intro e; subst e; omega
        have e3 := mul_lt_step b.toNat a.toNat _ (beNat y) (beNat x) c hy
        have e4 : ¬ (a.toNat * 256 ^ y.length + beNat x < b.toNat * 256 ^ y.length + beNat y) := Nat.not_lt.2 (Nat.le_of_lt e3)
        rw [decide_eq_false e4]
        simp [e1, e2]

theorem less_put (k n m : Nat) (hn : n < 256 ^ k) (hm : m < 256 ^ k) : Op.bytesLess (beBytes k n) (beBytes k m) = decide (n < m) := by
  rw [bytesLess_nat _ _ (by rw [beBytes_length, beBytes_length]), beNat_bytes k n hn, beNat_bytes k m hm]
theorem eq_put (k n m : Nat) (hn : n < 256 ^ k) (hm : m < 256 ^ k) : (beBytes k n == beBytes k m) = decide (n = m) := by
  by_cases h : n = m
  · subst h; simp
  · simp [h]; intro e; apply h; rw [← beNat_bytes k n hn, ← beNat_bytes k m hm, e]

namespace codecOrder
set_option maxHeartbeats 1000000 in
theorem walk (a0 : Int) (a1 : Int) (a2 : Int) (w : World) :
    Calls Try.prog 6 #[.int .i64 a0, .int .i64 a1, .int .i64 a2] w fun e w' => e = .returned (.bool true) ∧ Below w.heap.size w w' := by
  cases h1 : putB a0 a1
  · have E : putE a0 a1 = 1 := by simp [putE, h1]
    have P : ∀ w, Hid (Calls _ _ _ w _) := fun w => put_any a0 a1 w
    have R : ∀ w, Hid (Calls _ _ _ w _) := fun w => put_any a0 a2 w
    rw [E] at P
    clear E h1
    generalize putS a0 a1 = A at *
    generalize putS a0 a2 = B at *
    generalize putE a0 a2 = f at *
    go_enter Try.func6, Try.ntmps6
    go_wp2_with fail
    refine (works_any _).mono ?_
    rintro e w1 ⟨rfl, hb1⟩
    go_wp2_with fail
    refine Calls.mono (P _).out ?_
    rintro e w2 ⟨rfl, hb2⟩
    go_wp2_with fail
    refine Calls.mono (R _).out ?_
    rintro e w3 ⟨rfl, hb3⟩
    go_wp2
    go_ret
    have k1 := hb1.size
    have k2 := hb2.size
    exact ⟨rfl, (hb1.trans (hb2.mono k1)).trans (hb3.mono (by omega))⟩
  · cases h2 : putB a0 a2
    · have E : putE a0 a1 = 0 := by simp [putE, h1]
      have F : putE a0 a2 = 1 := by simp [putE, h2]
      have P : ∀ w, Hid (Calls _ _ _ w _) := fun w => put_any a0 a1 w
      have R : ∀ w, Hid (Calls _ _ _ w _) := fun w => put_any a0 a2 w
      rw [E] at P
      rw [F] at R
      clear E F h1 h2
      generalize putS a0 a1 = A at *
      generalize putS a0 a2 = B at *
      go_enter Try.func6, Try.ntmps6
      go_wp2_with fail
      refine (works_any _).mono ?_
      rintro e w1 ⟨rfl, hb1⟩
      go_wp2_with fail
      refine Calls.mono (P _).out ?_
      rintro e w2 ⟨rfl, hb2⟩
      go_wp2_with fail
      refine Calls.mono (R _).out ?_
      rintro e w3 ⟨rfl, hb3⟩
      go_wp2
      go_ret
      have k1 := hb1.size
      have k2 := hb2.size
      exact ⟨rfl, (hb1.trans (hb2.mono k1)).trans (hb3.mono (by omega))⟩
    · have E : putE a0 a1 = 0 := by simp [putE, h1]
      have F : putE a0 a2 = 0 := by simp [putE, h2]
      have P : ∀ w, Hid (Calls _ _ _ w _) := fun w => put_any a0 a1 w
      have R : ∀ w, Hid (Calls _ _ _ w _) := fun w => put_any a0 a2 w
      rw [E] at P
      rw [F] at R
      have h3 : szB a0 = true ∧ 0 ≤ a1 ∧ a1 < ((256 ^ a0.toNat : Nat) : Int) := by simpa [putB] using h1
      have h4 : szB a0 = true ∧ 0 ≤ a2 ∧ a2 < ((256 ^ a0.toNat : Nat) : Int) := by simpa [putB] using h2
      have h5 : 0 ≤ a0 := by have : a0 = 1 ∨ a0 = 2 ∨ a0 = 4 := by simpa [szB] using h3.1
                             omega
      have SA : putS a0 a1 = beBytes a0.toNat a1.toNat := by simp [putS, h1]
      have SB : putS a0 a2 = beBytes a0.toNat a2.toNat := by simp [putS, h2]
      obtain ⟨k, rfl⟩ := Int.eq_ofNat_of_zero_le h5
      obtain ⟨n, rfl⟩ := Int.eq_ofNat_of_zero_le h3.2.1
      obtain ⟨m, rfl⟩ := Int.eq_ofNat_of_zero_le h4.2.1
      rw [Int.toNat_natCast] at h3 h4 SA SB
      rw [Int.toNat_natCast] at SA SB
      have hn : n < 256 ^ k := Int.ofNat_lt.1 h3.2.2
      have hm : m < 256 ^ k := Int.ofNat_lt.1 h4.2.2
      have LA : (putS k n).length = k := by rw [SA, beBytes_length]
      have LB : (putS k m).length = k := by rw [SB, beBytes_length]
      have L1 : Op.bytesLess (putS k n) (putS k m) = decide ((n : Int) < (m : Int)) := by rw [SA, SB, less_put k n m hn hm]; simp
      have L2 : (putS k n == putS k m) = ((n : Int) == (m : Int)) := by
        rw [SA, SB, eq_put k n m hn hm, Bool.eq_iff_iff]; simp; omega
      clear E F h1 h2 h3 h4 h5 SA SB hn hm
      generalize putS k n = A at *
      generalize putS k m = B at *
      go_enter Try.func6, Try.ntmps6
      go_wp2_with fail
      refine (works_any _).mono ?_
      rintro e w1 ⟨rfl, hb1⟩
      go_wp2_with fail
      refine Calls.mono (P _).out ?_
      rintro e w2 ⟨rfl, hb2⟩
      go_wp2_with fail
      refine Calls.mono (R _).out ?_
      rintro e w3 ⟨rfl, hb3⟩
      go_wp2
      go_ret
      have k1 := hb1.size
      have k2 := hb2.size
      exact ⟨rfl, (hb1.trans (hb2.mono k1)).trans (hb3.mono (by omega))⟩
end codecOrder

end Go.Proofs.Ytciibbboimaccaa

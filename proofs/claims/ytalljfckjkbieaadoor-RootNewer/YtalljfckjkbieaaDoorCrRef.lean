/-
  The walks of the document's answer: rootstockref02's Step and Sum.
-/
import Derived.Test.YtalljfckjkbieaaDoorCrSum
namespace Go.Proofs.YtalljfckjkbieaaDoor
open Go.RowKit

/-- So many of a byte's eight steps. -/
def bitK (c : Nat) : Nat → Nat
  | 0 => c
  | k + 1 => bit1 (bitK c k)

theorem bitK_lt {c : Nat} (h : c < 4294967296) : ∀ k, bitK c k < 4294967296
  | 0 => h
  | k + 1 => bit1_lt (bitK_lt h k)

theorem bitK_eight (c : Nat) : bitK c 8 = bit8 c := rfl

set_option maxHeartbeats 1000000 in
theorem refStep (c : Int) (b : Nat) (hb : b < 256) (w : World) :
    Calls Tryd.prog 46 #[.int .i64 c, .int .u8 b] w fun r w' => r = .returned (.int .i64 ((stepN (c % 4294967296).toNat b : Nat) : Int)) ∧ w = w' := by
  have hlt : (c % 4294967296).toNat < 4294967296 := by omega
  have ew : c % 4294967296 = (((c % 4294967296).toNat : Nat) : Int) := by omega
  unfold stepN
  have e1 := u32_xor_nat (c % 4294967296).toNat b hlt (by omega)
  have hx : (c % 4294967296).toNat ^^^ b < 4294967296 := xor_lt32 hlt (by omega)
  generalize (c % 4294967296).toNat = n at *
  generalize n ^^^ b = x at *
  have E8 : Hid (bitK x 8 = bit8 x) := bitK_eight x
  go_enter Tryd.func46, Tryd.ntmps46
  go_wp2
  go_loop [5, 6] (fun c i => ∃ (k C : Nat), k ≤ 8 ∧ i = .int .i64 k ∧ c = .int .u32 C ∧ C < 4294967296 ∧ Hid (C = bitK x k)) (fun _ i => 8 - (intOf i).toNat)
  case atStart => exact ⟨0, x, Nat.zero_le _, rfl, rfl, hx, rfl⟩
  case round =>
    obtain ⟨k, C, hk, rfl, rfl, hC, eC⟩ := hrel
    by_cases hlt : k < 8
    · have hB := bit1_lt hC
      by_cases ho : C % 2 = 1
      · have eB : Hid (bit1 C = C / 2 ^^^ 3988292384) := by rw [Hid, bit1, if_pos ho]
        have e2 : bits .xor .u32 ((C : Int) / 2) 3988292384 = ((C / 2 ^^^ 3988292384 : Nat) : Int) := u32_xor_nat (C / 2) 3988292384 (by omega) (by decide)
        have ho' : (C : Int) % 2 = 1 := by omega
        go_wp2
        refine ⟨⟨k + 1, _, by omega, by go_num, rfl, by rw [← eB.out]; exact hB, ?_⟩, by simp [intOf]; omega⟩
        rw [Hid, ← eB.out, bitK, ← eC.out]
      · have eB : Hid (bit1 C = C / 2) := by rw [Hid, bit1, if_neg ho]
        have ho' : (C : Int) % 2 = 0 := by omega
        go_wp2
        refine ⟨⟨k + 1, C / 2, by omega, by go_num, by simp, by omega, ?_⟩, by simp [intOf]; omega⟩
        rw [Hid, ← eB.out, bitK, ← eC.out]
    · have hk8 : Hid (k = 8) := by show k = 8; omega
      go_wp2
      go_ret
      rw [← E8.out, ← hk8.out, ← eC.out]
      exact ⟨rfl, rfl⟩

set_option maxHeartbeats 1000000 in
theorem refSum (s : ByteArray) (w : World) (hs : s.size ≤ maxLen) :
    Calls Tryd.prog 28 #[.string s] w fun r w' => r = .returned (.int .i64 ((sumN s.data.toList : Nat) : Int)) ∧ w = w' := by
  unfold maxLen at hs
  go_enter Tryd.func28, Tryd.ntmps28
  go_wp2
  go_loop [3, 4] (fun c i => ∃ (j D : Nat), j ≤ s.size ∧ i = .int .i64 j ∧ c = .int .i64 D ∧ D < 4294967296 ∧ Hid (D = foldN 4294967295 (s.data.toList.take j))) (fun _ i => s.size - (intOf i).toNat)
  case atStart => exact ⟨0, 4294967295, Nat.zero_le _, rfl, rfl, by decide, rfl⟩
  case round =>
    obtain ⟨j, D, hj, rfl, rfl, hD, eD⟩ := hrel
    by_cases hlj : j < s.size
    · have T : Hid _ := foldN_take 4294967295 s j hlj
      have S : Hid _ := refStep (D : Int) s[j].toNat (UInt8.toNat_lt _) w
      rw [show ((D : Int) % 4294967296).toNat = D by omega] at S
      have hS : stepN D s[j].toNat < 4294967296 := stepN_lt hD (UInt8.toNat_lt _)
      go_wp2_with fail
      refine Calls.mono S.out ?_
      rintro e w' ⟨rfl, rfl⟩
      go_wp2
      refine ⟨⟨j + 1, _, by omega, by go_num, rfl, hS, ?_⟩, by simp [intOf]; omega⟩
      rw [Hid, T.out, ← eD.out]
    · have e1 : bits .xor .i64 (D : Int) 4294967295 = ((D ^^^ 4294967295 : Nat) : Int) := i64_xor32 D 4294967295 hD (by decide)
      have e2 : Hid (sumN s.data.toList = D ^^^ 4294967295) := by
        rw [Hid, sumN, eD.out, List.take_of_length_le (by simp; omega)]
      generalize D ^^^ 4294967295 = S at *
      go_wp2
      go_ret
      rw [e2.out]
      exact ⟨rfl, rfl⟩
end Go.Proofs.YtalljfckjkbieaaDoor

/-
  The walk of the law CrcSums: the check of any parts, and one step of it, is just what the document says.
-/
import Derived.Test.YtmaolddobiiikaaDoorRef
namespace Go.Proofs.YtmaolddobiiikaaDoor
open Go.RowKit
namespace crcSums

theorem ba_app (l : List UInt8) (x : ByteArray) : (⟨l.toArray⟩ : ByteArray) ++ x = ⟨(l ++ x.data.toList).toArray⟩ := by
  apply ByteArray.ext
  rw [ByteArray.data_append]
  simp

theorem walk_many (a : Option Addr) (len cap : Nat) (c : Int) (b : Nat) (w : World) (h : Tab w) (_hm : len ≤ maxLen) (hn : 40 < (len : Int)) :
    Calls Tryd.prog 3 #[.slice a len cap, .int .i64 c, .int .u8 b] w fun e w' => e = .returned (.bool true) ∧ Below w.heap.size w w' := by
  unfold maxLen at _hm
  have T : Hid (Tab w) := h
  clear h
  go_enter Tryd.func3, Tryd.ntmps3
  go_wp2_with fail
  refine (works_any w T.out).mono ?_
  rintro e w1 ⟨rfl, hb1⟩
  go_wp2
  go_ret
  exact ⟨rfl, hb1⟩

set_option maxHeartbeats 2000000 in
theorem walk_few (a : Option Addr) (len cap : Nat) (xs : List ByteArray) (c : Int) (b : Nat) (w : World) (h : Tab w) (row : StrRow w a len cap xs) (hb : b < 256) (hn : ¬ 40 < (len : Int)) :
    Calls Tryd.prog 3 #[.slice a len cap, .int .i64 c, .int .u8 b] w fun e w' => e = .returned (.bool true) ∧ Below w.heap.size w w' := by
  have T : Hid (Tab w) := h
  have ROW : Hid (StrRow w a len cap xs) := row
  clear h row
  have S3 : ∀ w, Tab w → Hid (Calls _ _ _ _ _) := fun w h => Step_any c b hb w h
  have S4 : ∀ w, Hid (Calls _ _ _ _ _) := fun w => refStep c b hb w
  have hz := stepN_lt (show (c % 4294967296).toNat < 4294967296 by omega) hb
  generalize stepN (c % 4294967296).toNat b = z at *
  go_enter Tryd.func3, Tryd.ntmps3
  go_wp2_with fail
  refine (works_any w T.out).mono ?_
  rintro e w1 ⟨rfl, hb1⟩
  have T1 : Hid (Tab w1) := T.out.below hb1
  have R1 : Hid (StrRow w1 a len cap xs) := ROW.out.below hb1
  have S1 : Hid _ := sum_any a len cap xs w1 T1.out R1.out
  go_wp2
  go_loop [8, 9] (fun al i => ∃ (k : Nat) (A : List UInt8), k ≤ len ∧ i = .int .i64 k ∧ al = .string ⟨A.toArray⟩ ∧ A.length ≤ k * 2048 ∧ Hid (A = cat (xs.take k))) (fun _ i => len - (intOf i).toNat)
  case atStart => exact ⟨0, [], by omega, rfl, rfl, by simp, by simp [Hid, cat]⟩
  case round =>
    obtain ⟨k, A, hk, rfl, rfl, lA, eA⟩ := hrel
    by_cases hlt : k < len
    · obtain ⟨bx, o, rfl, hbx, hc⟩ := R1.out.cells k hlt
      have eT : Hid (cat (xs.take (k + 1)) = cat (xs.take k) ++ (xs.getD k ByteArray.empty).data.toList) := cat_take xs k (by rw [R1.out.len_eq]; exact hlt)
      clear S1
      generalize xs.getD k ByteArray.empty = x at *
      by_cases hx : 2048 < (x.size : Int)
      · go_wp2
        go_ret
        exact ⟨rfl, hb1⟩
      · go_wp2
        refine ⟨⟨k + 1, A ++ x.data.toList, by omega, by go_num, congrArg Value.string (ba_app A x), ?_, ?_⟩, by simp [intOf]; omega⟩
        · have : x.data.toList.length = x.size := by simp
          rw [List.length_append]
          omega
        · rw [Hid, eT.out, ← eA.out]
    · have eC : cat xs = A := by
        rw [eA.out, List.take_of_length_le (by rw [R1.out.len_eq]; omega)]
      rw [eC] at S1
      have S2 : Hid _ := refSum ⟨A.toArray⟩ w1 (by unfold maxLen; show A.length ≤ _; omega)
      rw [show (⟨A.toArray⟩ : ByteArray).data.toList = A from by simp] at S2
      clear eC eA
      generalize sumN A = y at *
      go_wp2_with fail
      refine Calls.mono S1.out ?_
      rintro e w' ⟨rfl, rfl⟩
      go_wp2_with fail
      refine Calls.mono S2.out ?_
      rintro e w' ⟨rfl, rfl⟩
      go_wp2_with fail
      refine Calls.mono (S3 w1 T1.out).out ?_
      rintro e w' ⟨rfl, rfl⟩
      go_wp2_with fail
      refine Calls.mono (S4 w1).out ?_
      rintro e w' ⟨rfl, rfl⟩
      go_wp2
      go_ret
      exact ⟨rfl, hb1⟩

theorem walk (a : Option Addr) (len cap : Nat) (xs : List ByteArray) (c b : Int) (w : World) (h : Tab w) (row : StrRow w a len cap xs) (hb : 0 ≤ b ∧ b ≤ 255) :
    Calls Tryd.prog 3 #[.slice a len cap, .int .i64 c, .int .u8 b] w fun e w' => e = .returned (.bool true) ∧ Below w.heap.size w w' := by
  obtain ⟨n, rfl⟩ := Int.eq_ofNat_of_zero_le hb.1
  by_cases hn : 40 < (len : Int)
  · exact walk_many a len cap c n w h row.small hn
  · exact walk_few a len cap xs c n w h row (by omega) hn
end crcSums
end Go.Proofs.YtmaolddobiiikaaDoor

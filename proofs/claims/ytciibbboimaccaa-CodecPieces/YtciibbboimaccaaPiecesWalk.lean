/-
  The walk of the law CodecPieces: bytes read in two parts are those read at once.
-/
import Derived.Test.YtciibbboimaccaaWorks
import Derived.Lib.IndexBytes
namespace Go.Proofs.Ytciibbboimaccaa
open Go.RowKit

theorem bytes_ok (b n : Nat) (s : ByteArray) (w : World) (h : Rd b s 0 w) (hn : n ≤ s.size) :
    Calls Try.prog 19 #[.pointer (some ⟨b, 0, none⟩), .int .i64 n] w fun r w' => r = .returned (.string (s.extract 0 n)) ∧ Rd b (s.extract n s.size) 0 w' ∧ Only b w w' := by
  have e : rdBytes s 0 n = (s.extract 0 n, s.extract n s.size, 0) := by
    have h1 : ¬ (n : Int) < 0 := by omega
    have h2 : ¬ (s.size : Int) < n := by omega
    simp [rdBytes, h1, h2]
  have k := bytes_any b s 0 n w h
  rw [e] at k
  exact k

theorem extract_join (s : ByteArray) (n m : Nat) : s.extract 0 (n + m) = s.extract 0 n ++ (s.extract n s.size).extract 0 m := by
  have e1 := Lib.extract_data s 0 (n + m)
  have e2 := Lib.extract_data s 0 n
  have e3 := Lib.extract_data (s.extract n s.size) 0 m
  rw [Lib.extract_to_end] at e3
  apply ByteArray.ext
  apply Array.toList_inj.1
  rw [ByteArray.data_append, Array.toList_append, e1, e2, e3]
  simp [List.take_add]

namespace codecPieces
set_option maxHeartbeats 1000000 in
theorem walk_long (s : ByteArray) (a b : Int) (w : World) (_hs : s.size ≤ maxLen) (hl : 4096 < (s.size : Int)) :
    Calls Try.prog 7 #[.string s, .int .i64 a, .int .i64 b] w fun e w' => e = .returned (.bool true) ∧ Below w.heap.size w w' := by
  unfold maxLen at _hs
  go_enter Try.func7, Try.ntmps7
  go_wp2_with fail
  refine (works_any _).mono ?_
  rintro e w1 ⟨rfl, hb1⟩
  go_wp2
  go_ret
  exact ⟨rfl, hb1⟩

set_option maxHeartbeats 1000000 in
theorem walk_short (s : ByteArray) (a b : Int) (w : World) (hl : ¬ 4096 < (s.size : Int)) :
    Calls Try.prog 7 #[.string s, .int .i64 a, .int .i64 b] w fun e w' => e = .returned (.bool true) ∧ Below w.heap.size w w' := by
  go_enter Try.func7, Try.ntmps7
  go_wp2_with fail
  refine (works_any _).mono ?_
  rintro e w1 ⟨rfl, hb1⟩
  go_wp2_with fail
  generalize hn : min (max a 0) (s.size : Int) = n0
  generalize hm : min (max b 0) ((s.size : Int) - n0) = m0
  have hn1 : 0 ≤ n0 := by omega
  have hn2 : n0 ≤ s.size := by omega
  have hm1 : 0 ≤ m0 := by omega
  have hm2 : m0 ≤ s.size - n0 := by omega
  obtain ⟨n, rfl⟩ := Int.eq_ofNat_of_zero_le hn1
  obtain ⟨m, rfl⟩ := Int.eq_ofNat_of_zero_le hm1
  have gn : n ≤ s.size := by omega
  have gm : m ≤ s.size - n := by omega
  have gs : s.size ≤ maxLen := by unfold maxLen; omega
  clear hn hm hn1 hn2 hm1 hm2
  refine (read_any _ _).mono ?_
  rintro e w2 ⟨rfl, rfl⟩
  have H2 : Hid (Rd _ _ _ _) := Rd.made s gs w1
  go_wp2_with fail
  refine (bytes_ok _ n s _ H2.out gn).mono ?_
  rintro e w3 ⟨rfl, hr3, ho3⟩
  have H3 : Hid (Rd _ _ _ _) := hr3
  clear hr3
  go_wp2_with fail
  refine (bytes_ok _ m _ _ H3.out (by simp; omega)).mono ?_
  rintro e w4 ⟨rfl, hr4, ho4⟩
  have H4 : Hid (Rd _ _ _ _) := hr4
  clear hr4
  go_wp2_with fail
  have T1 : (s.extract n s.size).size = s.size - n := by simp
  have T2 : (s.extract n s.size).size ≤ maxLen := by unfold maxLen at gs ⊢; omega
  have T3 := congrArg ByteArray.toList (extract_join s n m)
  generalize s.extract n s.size = t at *
  refine (read_any _ _).mono ?_
  rintro e w5 ⟨rfl, rfl⟩
  have H5 : Hid (Rd _ _ _ _) := Rd.made t T2 w4
  go_wp2_with fail
  refine (bytes_ok _ m t _ H5.out (by omega)).mono ?_
  rintro e w6 ⟨rfl, hr6, ho6⟩
  have H6 : Hid (Rd _ _ _ _) := hr6
  clear hr6
  go_wp2_with fail
  refine (read_any _ _).mono ?_
  rintro e w7 ⟨rfl, rfl⟩
  have H7 : Hid (Rd _ _ _ _) := Rd.made s gs w6
  go_wp2_with fail
  have en : ((n : Int) + (m : Int)) = ((n + m : Nat) : Int) := by omega
  rw [en]
  clear en
  refine (bytes_ok _ (n + m) s _ H7.out (by omega)).mono ?_
  rintro e w8 ⟨rfl, hr8, ho8⟩
  clear hr8
  go_wp2_with fail
  have s3 := ho3.size
  have s4 := ho4.size
  have s6 := ho6.size
  have s8 := ho8.size
  rw [World.size_alloc] at s3 s6 s8
  have A1 : Below w4.heap.size w4 (w4.alloc (Obj.cells #[Value.string t, Value.int IntKind.i64 0] 51)) := (Below.refl _ _).alloc (Nat.le_refl _) _
  have A2 : Below w6.heap.size w6 (w6.alloc (Obj.cells #[Value.string s, Value.int IntKind.i64 0] 51)) := (Below.refl _ _).alloc (Nat.le_refl _) _
  have R8 : Hid (Rd w1.heap.size (t.extract m t.size) 0 w8) := (((H4.out.below A1 (by omega)).keep ho6 (by omega)).below A2 (by omega)).keep ho8 (by omega)
  have Q8 : Hid (Rd w4.heap.size (t.extract m t.size) 0 w8) := (H6.out.below A2 (by omega)).keep ho8 (by omega)
  have T5 : (t.extract m t.size).size = s.size - n - m := by simp; omega
  have F8 : Hid (Below w.heap.size w w8) := by
    have k1 := hb1.size
    exact (((((hb1.alloc k1 _).trans (ho3.below k1)).trans (ho4.below k1)).trans (A1.mono (by omega))).trans (ho6.below (by omega))).trans ((A2.mono (by omega)).trans (ho8.below (by omega)))
  generalize t.extract m t.size = u at *
  clear A1 A2 s3 s4 s6 s8 H2 H3 H4 H5 H6 H7 ho3 ho4 ho6 ho8 hb1
  have L5 : (u.size : Int) = (s.size : Int) - n - m := by omega
  clear T5 T1
  refine (left_any _ _ _ _ R8.out).mono ?_
  rintro e w9 ⟨rfl, rfl⟩
  go_wp2_with fail
  refine (left_any _ _ _ _ R8.out).mono ?_
  rintro e w9 ⟨rfl, rfl⟩
  go_wp2_with fail
  refine (left_any _ _ _ _ Q8.out).mono ?_
  rintro e w9 ⟨rfl, rfl⟩
  go_wp2_with fail
  refine (err_any _ _ _ _ R8.out).mono ?_
  rintro e w9 ⟨rfl, rfl⟩
  go_wp2
  go_ret
  exact ⟨rfl, F8.out⟩

theorem walk (s : ByteArray) (a b : Int) (w : World) (hs : s.size ≤ maxLen) :
    Calls Try.prog 7 #[.string s, .int .i64 a, .int .i64 b] w fun e w' => e = .returned (.bool true) ∧ Below w.heap.size w w' := by
  by_cases hl : 4096 < (s.size : Int)
  · exact walk_long s a b w hs hl
  · exact walk_short s a b w hl

end codecPieces

end Go.Proofs.Ytciibbboimaccaa

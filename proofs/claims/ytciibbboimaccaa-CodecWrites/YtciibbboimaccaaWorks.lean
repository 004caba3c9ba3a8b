/-
  The walk of the document's examples (works): it answers true, and turns nothing that was there.
-/
import Derived.Test.YtciibbboimaccaaJoin
namespace Go.Proofs.Ytciibbboimaccaa
open Go.RowKit

theorem ex_put : putS 2 258 = [1, 2] ∧ putE 2 258 = 0 := by decide +kernel
theorem ex_text : textS ⟨#[97, 98]⟩ = [2, 97, 98] ∧ textE ⟨#[97, 98]⟩ = 0 := by decide +kernel
theorem ex_int1 : rdInt ⟨#[1, 2, 3]⟩ 0 2 = (258, ⟨#[3]⟩, 0) := by decide +kernel
theorem ex_end : rdEnd ⟨#[3]⟩ 0 = 11 := by decide +kernel
theorem ex_int2 : rdInt ⟨#[3]⟩ 0 2 = (0, ⟨#[3]⟩, 10) := by decide +kernel

theorem put_ex (w : World) : Calls Try.prog 10 #[.int .i64 2, .int .i64 258] w fun r w' => r = .returned (.tuple #[.string ⟨#[1, 2]⟩, .int .i64 0]) ∧ Below w.heap.size w w' := by
  have h := put_any 2 258 w
  rw [ex_put.1, ex_put.2] at h
  exact h
theorem text_ex (w : World) : Calls Try.prog 12 #[.string ⟨#[97, 98]⟩] w fun r w' => r = .returned (.tuple #[.string ⟨#[2, 97, 98]⟩, .int .i64 0]) ∧ Below w.heap.size w w' := by
  have h := text_any ⟨#[97, 98]⟩ w (by decide +kernel)
  rw [ex_text.1, ex_text.2] at h
  exact h
theorem int_ex1 (b : Nat) (w : World) (h : Rd b ⟨#[1, 2, 3]⟩ 0 w) : Calls Try.prog 15 #[.pointer (some ⟨b, 0, none⟩), .int .i64 2] w fun r w' => r = .returned (.int .i64 258) ∧ Rd b ⟨#[3]⟩ 0 w' ∧ Only b w w' := by
  have h := int_any b _ 0 2 w h
  rw [ex_int1] at h
  exact h
theorem int_ex2 (b : Nat) (w : World) (h : Rd b ⟨#[3]⟩ 0 w) : Calls Try.prog 15 #[.pointer (some ⟨b, 0, none⟩), .int .i64 2] w fun r w' => r = .returned (.int .i64 0) ∧ Rd b ⟨#[3]⟩ 10 w' ∧ Only b w w' := by
  have h := int_any b _ 0 2 w h
  rw [ex_int2] at h
  exact h
theorem end_ex (b : Nat) (w : World) (h : Rd b ⟨#[3]⟩ 0 w) : Calls Try.prog 23 #[.pointer (some ⟨b, 0, none⟩)] w fun r w' => r = .returned (.int .i64 11) ∧ w = w' := by
  have h := end_any b _ 0 w h
  rw [ex_end] at h
  exact h
theorem join_ex (w : World) : Calls Try.prog 13 #[.slice (some ⟨w.heap.size, 0, none⟩) 3 3] (w.alloc (.cells #[.string ⟨#[97]⟩, .string ⟨#[]⟩, .string ⟨#[98, 99]⟩] 9)) fun r w' => r = .returned (.string ⟨#[97, 98, 99]⟩) ∧ Below w.heap.size w w' :=
  join3 ⟨#[97]⟩ ⟨#[]⟩ ⟨#[98, 99]⟩ w (by decide +kernel)

set_option maxHeartbeats 1000000 in
theorem works_any (w : World) : Calls Try.prog 9 #[] w fun r w' => r = .returned (.bool true) ∧ Below w.heap.size w w' := by
  go_enter Try.func9, Try.ntmps9
  go_wp2_with fail
  refine (put_ex _).mono ?_
  rintro e w1 ⟨rfl, hb1⟩
  go_wp2_with fail
  refine (text_ex _).mono ?_
  rintro e w2 ⟨rfl, hb2⟩
  go_wp2_with fail
  refine (read_any _ _).mono ?_
  rintro e w3 ⟨rfl, rfl⟩
  have hr3 := Rd.made ⟨#[1, 2, 3]⟩ (by decide +kernel) w2
  have H3 : Hid (Rd _ _ _ _) := hr3
  clear hr3
  go_wp2_with fail
  refine (int_ex1 _ _ H3.out).mono ?_
  rintro e w4 ⟨rfl, hr4, ho4⟩
  have H4 : Hid (Rd _ _ _ _) := hr4
  clear hr4
  go_wp2_with fail
  refine (left_any _ _ _ _ H4.out).mono ?_
  rintro e w5 ⟨rfl, rfl⟩
  go_wp2_with fail
  refine (end_ex _ _ H4.out).mono ?_
  rintro e w5 ⟨rfl, rfl⟩
  go_wp2_with fail
  refine (int_ex2 _ _ H4.out).mono ?_
  rintro e w5 ⟨rfl, hr5, ho5⟩
  have H5 : Hid (Rd _ _ _ _) := hr5
  clear hr5
  go_wp2_with fail
  refine (err_any _ _ _ _ H5.out).mono ?_
  rintro e w6 ⟨rfl, rfl⟩
  go_wp2_with fail
  refine (join_ex _).mono ?_
  rintro e w6 ⟨rfl, hb6⟩
  go_wp2
  go_ret
  have k1 := hb1.size
  have k2 := hb2.size
  have k4 := ho4.size
  have k5 := ho5.size
  rw [World.size_alloc] at k4
  exact ⟨rfl, (((((hb1.trans (hb2.mono k1)).alloc (by omega) _).trans (ho4.below (by omega))).trans (ho5.below (by omega))).trans (hb6.mono (by omega)))⟩

end Go.Proofs.Ytciibbboimaccaa

/-
  The walk of the law CodecBack: what is written is read again, and what is read, written again, is just those bytes.
-/
import Derived.Test.YtciibbboimaccaaBackLaws
namespace Go.Proofs.Ytciibbboimaccaa
open Go.RowKit

theorem join2l (p t : List UInt8) (w : World) (hl : p.length + t.length ≤ 140737488355328) :
    Calls Try.prog 13 #[.slice (some ⟨w.heap.size, 0, none⟩) 2 2] (w.alloc (.cells #[.string ⟨p.toArray⟩, .string ⟨t.toArray⟩] 9)) fun r w' => r = .returned (.string ⟨(p ++ t).toArray⟩) ∧ Below w.heap.size w w' :=
  join2 ⟨p.toArray⟩ ⟨t.toArray⟩ w (by rw [ba_size, ba_size]; exact hl)

theorem putS_le (size n : Int) : (putS size n).length ≤ 4 := by
  unfold putS
  split
  · rename_i h
    have h1 : szB size = true := by
      cases hz : szB size
      · simp [putB, hz] at h
      · rfl
    have : size = 1 ∨ size = 2 ∨ size = 4 := by simpa [szB] using h1
    rw [beBytes_length]; omega
  · simp
theorem textS_le (s : ByteArray) : (textS s).length ≤ 256 := by
  unfold textS
  split
  · have := Lib.size_eq s
    simp at this ⊢; omega
  · simp

/-- What the second half of CodecBack goes through, where the reader errs not. -/
structure Bk (b : ByteArray) (size m : Int) (u s2 : ByteArray) (X p t : List UInt8) : Prop where
  pS : putS size m = p
  pE : putE size m = 0
  tS : textS u = t
  tE : textE u = 0
  x : p ++ t = X
  len : X.length + s2.size = b.size
  ext : b.extract 0 X.length = ⟨X.toArray⟩

namespace codecBack
set_option maxHeartbeats 1000000 in
theorem walk_long (size n : Int) (s b : ByteArray) (w : World) (_hs : s.size ≤ maxLen) (hl : 4096 < (s.size : Int)) :
    Calls Try.prog 5 #[.int .i64 size, .int .i64 n, .string s, .string b] w fun e w' => e = .returned (.bool true) ∧ Below w.heap.size w w' := by
  unfold maxLen at _hs
  go_enter Try.func5, Try.ntmps5
  go_wp2_with fail
  refine (works_any _).mono ?_
  rintro e w1 ⟨rfl, hb1⟩
  go_wp2
  go_ret
  exact ⟨rfl, hb1⟩

set_option maxHeartbeats 1000000 in
theorem walk_long2 (size n : Int) (s b : ByteArray) (w : World) (_hl : ¬ 4096 < (s.size : Int)) (_hb : b.size ≤ maxLen) (hl2 : 4096 < (b.size : Int)) :
    Calls Try.prog 5 #[.int .i64 size, .int .i64 n, .string s, .string b] w fun e w' => e = .returned (.bool true) ∧ Below w.heap.size w w' := by
  unfold maxLen at _hb
  go_enter Try.func5, Try.ntmps5
  go_wp2_with fail
  refine (works_any _).mono ?_
  rintro e w1 ⟨rfl, hb1⟩
  go_wp2
  go_ret
  exact ⟨rfl, hb1⟩

theorem end_empty (blk : Nat) (w : World) (h : Rd blk ⟨#[]⟩ 0 w) : Calls Try.prog 23 #[.pointer (some ⟨blk, 0, none⟩)] w fun r w' => r = .returned (.int .i64 0) ∧ w = w' := by
  have c := end_any blk ⟨#[]⟩ 0 w h
  have e : rdEnd ⟨#[]⟩ 0 = 0 := rfl
  rw [e] at c
  exact c

set_option maxHeartbeats 2000000 in
theorem walk1err (size n : Int) (s b : ByteArray) (w : World) (hl : ¬ 4096 < (s.size : Int)) (hl2 : ¬ 4096 < (b.size : Int)) (ha : putE size n = 1)
    (m e1 e2 : Int) (u s1 s2 : ByteArray) (he : (e2 != 0) = true)
    (C1 : ∀ blk w, Hid (Rd blk b 0 w → Calls Try.prog 15 #[.pointer (some ⟨blk, 0, none⟩), .int .i64 size] w fun r w' => r = .returned (.int .i64 m) ∧ Rd blk s1 e1 w' ∧ Only blk w w'))
    (C2 : ∀ blk w, Hid (Rd blk s1 e1 w → Calls Try.prog 17 #[.pointer (some ⟨blk, 0, none⟩)] w fun r w' => r = .returned (.string u) ∧ Rd blk s2 e2 w' ∧ Only blk w w')) :
    Calls Try.prog 5 #[.int .i64 size, .int .i64 n, .string s, .string b] w fun e w' => e = .returned (.bool true) ∧ Below w.heap.size w w' := by
  have gs : s.size ≤ maxLen := by unfold maxLen; omega
  have gb : b.size ≤ maxLen := by unfold maxLen; omega
  have P : ∀ w, Hid (Calls _ _ _ w _) := fun w => put_any size n w
  have T : ∀ w, Hid (Calls _ _ _ w _) := fun w => text_any s w gs
  rw [ha] at P
  clear ha
  generalize putS size n = p0 at *
  generalize textS s = t0 at *
  generalize textE s = f0 at *
  go_enter Try.func5, Try.ntmps5
  go_wp2_with fail
  refine (works_any _).mono ?_
  rintro e w1 ⟨rfl, hb1⟩
  go_wp2_with fail
  refine Calls.mono (P _).out ?_
  rintro e w2 ⟨rfl, hb2⟩
  go_wp2_with fail
  refine Calls.mono (T _).out ?_
  rintro e w3 ⟨rfl, hb3⟩
  have k1 := hb1.size
  have k2 := hb2.size
  have F3 : Hid (Below w.heap.size w w3) := (hb1.trans (hb2.mono k1)).trans (hb3.mono (by omega))
  clear hb1 hb2 hb3 k1 k2
  go_wp2_with fail
  generalize w3 = wA at *
  refine (read_any _ _).mono ?_
  rintro e x2 ⟨rfl, rfl⟩
  have R2 : Hid (Rd _ _ _ _) := Rd.made b gb wA
  go_wp2_with fail
  refine Calls.mono ((C1 _ _).out R2.out) ?_
  rintro e x3 ⟨rfl, hr3, ho3⟩
  have R3 : Hid (Rd _ _ _ _) := hr3
  clear hr3 R2
  go_wp2_with fail
  refine Calls.mono ((C2 _ _).out R3.out) ?_
  rintro e x4 ⟨rfl, hr4, ho4⟩
  have R4 : Hid (Rd _ _ _ _) := hr4
  clear hr4 R3
  go_wp2_with fail
  refine (err_any _ _ _ _ R4.out).mono ?_
  rintro e x5 ⟨rfl, rfl⟩
  have kA := F3.out.size
  have G4 : Hid (Below w.heap.size w x4) := ((F3.out.alloc kA _).trans (ho3.below kA)).trans (ho4.below kA)
  have z4 : Hid (wA.heap.size < x4.heap.size) := R4.out.lt
  go_wp2
  go_ret
  exact ⟨rfl, G4.out⟩

set_option maxHeartbeats 2000000 in
theorem walk1ok (size n : Int) (s b : ByteArray) (w : World) (hl : ¬ 4096 < (s.size : Int)) (hl2 : ¬ 4096 < (b.size : Int)) (ha : putE size n = 1)
    (m e1 : Int) (u s1 s2 : ByteArray) (X p t : List UInt8) (gu : u.size ≤ maxLen) (K : Hid (Bk b size m u s2 X p t))
    (C1 : ∀ blk w, Hid (Rd blk b 0 w → Calls Try.prog 15 #[.pointer (some ⟨blk, 0, none⟩), .int .i64 size] w fun r w' => r = .returned (.int .i64 m) ∧ Rd blk s1 e1 w' ∧ Only blk w w'))
    (C2 : ∀ blk w, Hid (Rd blk s1 e1 w → Calls Try.prog 17 #[.pointer (some ⟨blk, 0, none⟩)] w fun r w' => r = .returned (.string u) ∧ Rd blk s2 0 w' ∧ Only blk w w')) :
    Calls Try.prog 5 #[.int .i64 size, .int .i64 n, .string s, .string b] w fun e w' => e = .returned (.bool true) ∧ Below w.heap.size w w' := by
  have gs : s.size ≤ maxLen := by unfold maxLen; omega
  have gb : b.size ≤ maxLen := by unfold maxLen; omega
  have PM : ∀ w, Hid (Calls _ _ _ w _) := fun w => put_any size m w
  rw [K.out.pS, K.out.pE] at PM
  have TU : ∀ w, Hid (Calls _ _ _ w _) := fun w => text_any u w gu
  rw [K.out.tS, K.out.tE] at TU
  have LX : p.length + t.length ≤ 4096 := by
    have h1 := K.out.len
    have h2 := congrArg List.length K.out.x
    rw [List.length_append] at h2
    omega
  have JX : ∀ w, Hid (Calls _ _ _ (World.alloc w _) _) := fun w => join2l p t w (by omega)
  rw [K.out.x] at JX
  have X1 : (X.length : Int) = (b.size : Int) - s2.size := by have := K.out.len; omega
  have X3 : (s2.size : Int) ≤ b.size := by have := K.out.len; omega
  have X2 : (X == (b.extract 0 (b.size - s2.size)).toList) = true := by
    have h1 := K.out.len
    have h2 : b.size - s2.size = X.length := by omega
    rw [h2, K.out.ext]
    simp [go_sem]
  have X4 : X.length ≤ b.size := by have := K.out.len; omega
  clear K LX
  have P : ∀ w, Hid (Calls _ _ _ w _) := fun w => put_any size n w
  have T : ∀ w, Hid (Calls _ _ _ w _) := fun w => text_any s w gs
  rw [ha] at P
  clear ha
  generalize putS size n = p0 at *
  generalize textS s = t0 at *
  generalize textE s = f0 at *
  go_enter Try.func5, Try.ntmps5
  go_wp2_with fail
  refine (works_any _).mono ?_
  rintro e w1 ⟨rfl, hb1⟩
  go_wp2_with fail
  refine Calls.mono (P _).out ?_
  rintro e w2 ⟨rfl, hb2⟩
  go_wp2_with fail
  refine Calls.mono (T _).out ?_
  rintro e w3 ⟨rfl, hb3⟩
  have k1 := hb1.size
  have k2 := hb2.size
  have F3 : Hid (Below w.heap.size w w3) := (hb1.trans (hb2.mono k1)).trans (hb3.mono (by omega))
  clear hb1 hb2 hb3 k1 k2
  go_wp2_with fail
  generalize w3 = wA at *
  refine (read_any _ _).mono ?_
  rintro e x2 ⟨rfl, rfl⟩
  have R2 : Hid (Rd _ _ _ _) := Rd.made b gb wA
  go_wp2_with fail
  refine Calls.mono ((C1 _ _).out R2.out) ?_
  rintro e x3 ⟨rfl, hr3, ho3⟩
  have R3 : Hid (Rd _ _ _ _) := hr3
  clear hr3 R2
  go_wp2_with fail
  refine Calls.mono ((C2 _ _).out R3.out) ?_
  rintro e x4 ⟨rfl, hr4, ho4⟩
  have R4 : Hid (Rd _ _ _ _) := hr4
  clear hr4 R3
  go_wp2_with fail
  refine (err_any _ _ _ _ R4.out).mono ?_
  rintro e x5 ⟨rfl, rfl⟩
  have kA := F3.out.size
  have G4 : Hid (Below w.heap.size w x4) := ((F3.out.alloc kA _).trans (ho3.below kA)).trans (ho4.below kA)
  have z4 : Hid (wA.heap.size < x4.heap.size) := R4.out.lt
  clear C1 C2 ho3 ho4
  go_wp2_with fail
  refine Calls.mono (PM _).out ?_
  rintro e x6 ⟨rfl, hb6⟩
  have G6 : Hid (Below w.heap.size w x6) := G4.out.trans (hb6.mono G4.out.size)
  have R6 : Hid (Rd _ _ _ _) := R4.out.below hb6 z4.out
  have z6 : Hid (wA.heap.size < x6.heap.size) := R6.out.lt
  clear hb6 R4 G4 z4
  go_wp2_with fail
  refine Calls.mono (TU _).out ?_
  rintro e x7 ⟨rfl, hb7⟩
  have G7 : Hid (Below w.heap.size w x7) := G6.out.trans (hb7.mono G6.out.size)
  have R7 : Hid (Rd _ _ _ _) := R6.out.below hb7 z6.out
  have z7 : Hid (wA.heap.size < x7.heap.size) := R7.out.lt
  clear hb7 R6 G6 z6
  go_wp2_with fail
  refine Calls.mono (JX _).out ?_
  rintro e x8 ⟨rfl, hb8⟩
  have G8 : Hid (Below w.heap.size w x8) := G7.out.trans (hb8.mono G7.out.size)
  have R8 : Hid (Rd _ _ _ _) := R7.out.below hb8 z7.out
  clear hb8 R7 G7 z7
  go_wp2_with fail
  refine (left_any _ _ _ _ R8.out).mono ?_
  rintro e x9 ⟨rfl, rfl⟩
  go_wp2
  go_ret
  exact ⟨rfl, G8.out⟩

set_option maxHeartbeats 2000000 in
theorem walk2err (size n : Int) (s b : ByteArray) (w : World) (hl : ¬ 4096 < (s.size : Int)) (hl2 : ¬ 4096 < (b.size : Int)) (ha : putE size n = 0) (ht : textE s = 1)
    (m e1 e2 : Int) (u s1 s2 : ByteArray) (he : (e2 != 0) = true)
    (C1 : ∀ blk w, Hid (Rd blk b 0 w → Calls Try.prog 15 #[.pointer (some ⟨blk, 0, none⟩), .int .i64 size] w fun r w' => r = .returned (.int .i64 m) ∧ Rd blk s1 e1 w' ∧ Only blk w w'))
    (C2 : ∀ blk w, Hid (Rd blk s1 e1 w → Calls Try.prog 17 #[.pointer (some ⟨blk, 0, none⟩)] w fun r w' => r = .returned (.string u) ∧ Rd blk s2 e2 w' ∧ Only blk w w')) :
    Calls Try.prog 5 #[.int .i64 size, .int .i64 n, .string s, .string b] w fun e w' => e = .returned (.bool true) ∧ Below w.heap.size w w' := by
  have gs : s.size ≤ maxLen := by unfold maxLen; omega
  have gb : b.size ≤ maxLen := by unfold maxLen; omega
  have P : ∀ w, Hid (Calls _ _ _ w _) := fun w => put_any size n w
  have T : ∀ w, Hid (Calls _ _ _ w _) := fun w => text_any s w gs
  rw [ha] at P
  rw [ht] at T
  clear ha ht
  generalize putS size n = p0 at *
  generalize textS s = t0 at *
  go_enter Try.func5, Try.ntmps5
  go_wp2_with fail
  refine (works_any _).mono ?_
  rintro e w1 ⟨rfl, hb1⟩
  go_wp2_with fail
  refine Calls.mono (P _).out ?_
  rintro e w2 ⟨rfl, hb2⟩
  go_wp2_with fail
  refine Calls.mono (T _).out ?_
  rintro e w3 ⟨rfl, hb3⟩
  have k1 := hb1.size
  have k2 := hb2.size
  have F3 : Hid (Below w.heap.size w w3) := (hb1.trans (hb2.mono k1)).trans (hb3.mono (by omega))
  clear hb1 hb2 hb3 k1 k2
  go_wp2_with fail
  generalize w3 = wA at *
  refine (read_any _ _).mono ?_
  rintro e x2 ⟨rfl, rfl⟩
  have R2 : Hid (Rd _ _ _ _) := Rd.made b gb wA
  go_wp2_with fail
  refine Calls.mono ((C1 _ _).out R2.out) ?_
  rintro e x3 ⟨rfl, hr3, ho3⟩
  have R3 : Hid (Rd _ _ _ _) := hr3
  clear hr3 R2
  go_wp2_with fail
  refine Calls.mono ((C2 _ _).out R3.out) ?_
  rintro e x4 ⟨rfl, hr4, ho4⟩
  have R4 : Hid (Rd _ _ _ _) := hr4
  clear hr4 R3
  go_wp2_with fail
  refine (err_any _ _ _ _ R4.out).mono ?_
  rintro e x5 ⟨rfl, rfl⟩
  have kA := F3.out.size
  have G4 : Hid (Below w.heap.size w x4) := ((F3.out.alloc kA _).trans (ho3.below kA)).trans (ho4.below kA)
  have z4 : Hid (wA.heap.size < x4.heap.size) := R4.out.lt
  go_wp2
  go_ret
  exact ⟨rfl, G4.out⟩

set_option maxHeartbeats 2000000 in
theorem walk2ok (size n : Int) (s b : ByteArray) (w : World) (hl : ¬ 4096 < (s.size : Int)) (hl2 : ¬ 4096 < (b.size : Int)) (ha : putE size n = 0) (ht : textE s = 1)
    (m e1 : Int) (u s1 s2 : ByteArray) (X p t : List UInt8) (gu : u.size ≤ maxLen) (K : Hid (Bk b size m u s2 X p t))
    (C1 : ∀ blk w, Hid (Rd blk b 0 w → Calls Try.prog 15 #[.pointer (some ⟨blk, 0, none⟩), .int .i64 size] w fun r w' => r = .returned (.int .i64 m) ∧ Rd blk s1 e1 w' ∧ Only blk w w'))
    (C2 : ∀ blk w, Hid (Rd blk s1 e1 w → Calls Try.prog 17 #[.pointer (some ⟨blk, 0, none⟩)] w fun r w' => r = .returned (.string u) ∧ Rd blk s2 0 w' ∧ Only blk w w')) :
    Calls Try.prog 5 #[.int .i64 size, .int .i64 n, .string s, .string b] w fun e w' => e = .returned (.bool true) ∧ Below w.heap.size w w' := by
  have gs : s.size ≤ maxLen := by unfold maxLen; omega
  have gb : b.size ≤ maxLen := by unfold maxLen; omega
  have PM : ∀ w, Hid (Calls _ _ _ w _) := fun w => put_any size m w
  rw [K.out.pS, K.out.pE] at PM
  have TU : ∀ w, Hid (Calls _ _ _ w _) := fun w => text_any u w gu
  rw [K.out.tS, K.out.tE] at TU
  have LX : p.length + t.length ≤ 4096 := by
    have h1 := K.out.len
    have h2 := congrArg List.length K.out.x
    rw [List.length_append] at h2
    omega
  have JX : ∀ w, Hid (Calls _ _ _ (World.alloc w _) _) := fun w => join2l p t w (by omega)
  rw [K.out.x] at JX
  have X1 : (X.length : Int) = (b.size : Int) - s2.size := by have := K.out.len; omega
  have X3 : (s2.size : Int) ≤ b.size := by have := K.out.len; omega
  have X2 : (X == (b.extract 0 (b.size - s2.size)).toList) = true := by
    have h1 := K.out.len
    have h2 : b.size - s2.size = X.length := by omega
    rw [h2, K.out.ext]
    simp [go_sem]
  have X4 : X.length ≤ b.size := by have := K.out.len; omega
  clear K LX
  have P : ∀ w, Hid (Calls _ _ _ w _) := fun w => put_any size n w
  have T : ∀ w, Hid (Calls _ _ _ w _) := fun w => text_any s w gs
  rw [ha] at P
  rw [ht] at T
  clear ha ht
  generalize putS size n = p0 at *
  generalize textS s = t0 at *
  go_enter Try.func5, Try.ntmps5
  go_wp2_with fail
  refine (works_any _).mono ?_
  rintro e w1 ⟨rfl, hb1⟩
  go_wp2_with fail
  refine Calls.mono (P _).out ?_
  rintro e w2 ⟨rfl, hb2⟩
  go_wp2_with fail
  refine Calls.mono (T _).out ?_
  rintro e w3 ⟨rfl, hb3⟩
  have k1 := hb1.size
  have k2 := hb2.size
  have F3 : Hid (Below w.heap.size w w3) := (hb1.trans (hb2.mono k1)).trans (hb3.mono (by omega))
  clear hb1 hb2 hb3 k1 k2
  go_wp2_with fail
  generalize w3 = wA at *
  refine (read_any _ _).mono ?_
  rintro e x2 ⟨rfl, rfl⟩
  have R2 : Hid (Rd _ _ _ _) := Rd.made b gb wA
  go_wp2_with fail
  refine Calls.mono ((C1 _ _).out R2.out) ?_
  rintro e x3 ⟨rfl, hr3, ho3⟩
  have R3 : Hid (Rd _ _ _ _) := hr3
  clear hr3 R2
  go_wp2_with fail
  refine Calls.mono ((C2 _ _).out R3.out) ?_
  rintro e x4 ⟨rfl, hr4, ho4⟩
  have R4 : Hid (Rd _ _ _ _) := hr4
  clear hr4 R3
  go_wp2_with fail
  refine (err_any _ _ _ _ R4.out).mono ?_
  rintro e x5 ⟨rfl, rfl⟩
  have kA := F3.out.size
  have G4 : Hid (Below w.heap.size w x4) := ((F3.out.alloc kA _).trans (ho3.below kA)).trans (ho4.below kA)
  have z4 : Hid (wA.heap.size < x4.heap.size) := R4.out.lt
  clear C1 C2 ho3 ho4
  go_wp2_with fail
  refine Calls.mono (PM _).out ?_
  rintro e x6 ⟨rfl, hb6⟩
  have G6 : Hid (Below w.heap.size w x6) := G4.out.trans (hb6.mono G4.out.size)
  have R6 : Hid (Rd _ _ _ _) := R4.out.below hb6 z4.out
  have z6 : Hid (wA.heap.size < x6.heap.size) := R6.out.lt
  clear hb6 R4 G4 z4
  go_wp2_with fail
  refine Calls.mono (TU _).out ?_
  rintro e x7 ⟨rfl, hb7⟩
  have G7 : Hid (Below w.heap.size w x7) := G6.out.trans (hb7.mono G6.out.size)
  have R7 : Hid (Rd _ _ _ _) := R6.out.below hb7 z6.out
  have z7 : Hid (wA.heap.size < x7.heap.size) := R7.out.lt
  clear hb7 R6 G6 z6
  go_wp2_with fail
  refine Calls.mono (JX _).out ?_
  rintro e x8 ⟨rfl, hb8⟩
  have G8 : Hid (Below w.heap.size w x8) := G7.out.trans (hb8.mono G7.out.size)
  have R8 : Hid (Rd _ _ _ _) := R7.out.below hb8 z7.out
  clear hb8 R7 G7 z7
  go_wp2_with fail
  refine (left_any _ _ _ _ R8.out).mono ?_
  rintro e x9 ⟨rfl, rfl⟩
  go_wp2
  go_ret
  exact ⟨rfl, G8.out⟩

set_option maxHeartbeats 2000000 in
theorem walk3err (size n : Int) (s b : ByteArray) (w : World) (hl : ¬ 4096 < (s.size : Int)) (hl2 : ¬ 4096 < (b.size : Int)) (ha : putE size n = 0) (ht : textE s = 0)
    (m e1 e2 : Int) (u s1 s2 : ByteArray) (he : (e2 != 0) = true)
    (C1 : ∀ blk w, Hid (Rd blk b 0 w → Calls Try.prog 15 #[.pointer (some ⟨blk, 0, none⟩), .int .i64 size] w fun r w' => r = .returned (.int .i64 m) ∧ Rd blk s1 e1 w' ∧ Only blk w w'))
    (C2 : ∀ blk w, Hid (Rd blk s1 e1 w → Calls Try.prog 17 #[.pointer (some ⟨blk, 0, none⟩)] w fun r w' => r = .returned (.string u) ∧ Rd blk s2 e2 w' ∧ Only blk w w')) :
    Calls Try.prog 5 #[.int .i64 size, .int .i64 n, .string s, .string b] w fun e w' => e = .returned (.bool true) ∧ Below w.heap.size w w' := by
  have gs : s.size ≤ maxLen := by unfold maxLen; omega
  have gb : b.size ≤ maxLen := by unfold maxLen; omega
  have P : ∀ w, Hid (Calls _ _ _ w _) := fun w => put_any size n w
  have T : ∀ w, Hid (Calls _ _ _ w _) := fun w => text_any s w gs
  obtain ⟨B1, B2⟩ := back_writes size n s ha ht
  have L0 : (putS size n).length + (textS s).length ≤ 260 := by
    have l1 := putS_le size n
    have l2 := textS_le s
    omega
  rw [ha] at P
  rw [ht] at T
  clear ha ht
  have M0 : (⟨(putS size n ++ textS s).toArray⟩ : ByteArray).size ≤ maxLen := by rw [ba_size, List.length_append]; unfold maxLen; omega
  have D1 : ∀ blk w, Hid (Rd blk _ 0 w → Calls _ _ _ w _) := fun blk w h => int_any blk ⟨(putS size n ++ textS s).toArray⟩ 0 size w h
  rw [B1] at D1
  have D2 : ∀ blk w, Hid (Rd blk _ 0 w → Calls _ _ _ w _) := fun blk w h => rtext_any blk ⟨(textS s).toArray⟩ 0 w h
  rw [B2] at D2
  clear B1 B2
  generalize putS size n = p0 at *
  generalize textS s = t0 at *
  go_enter Try.func5, Try.ntmps5
  go_wp2_with fail
  refine (works_any _).mono ?_
  rintro e w1 ⟨rfl, hb1⟩
  go_wp2_with fail
  refine Calls.mono (P _).out ?_
  rintro e w2 ⟨rfl, hb2⟩
  go_wp2_with fail
  refine Calls.mono (T _).out ?_
  rintro e w3 ⟨rfl, hb3⟩
  have k1 := hb1.size
  have k2 := hb2.size
  have F3 : Hid (Below w.heap.size w w3) := (hb1.trans (hb2.mono k1)).trans (hb3.mono (by omega))
  clear hb1 hb2 hb3 k1 k2
  go_wp2_with fail
  refine (join2l p0 t0 w3 (by omega)).mono ?_
  rintro e w4 ⟨rfl, hb4⟩
  have k3 := F3.out.size
  have F4 : Hid (Below w.heap.size w w4) := F3.out.trans (hb4.mono k3)
  clear hb4 F3 k3
  go_wp2_with fail
  refine (read_any _ _).mono ?_
  rintro e w5 ⟨rfl, rfl⟩
  have H5 : Hid (Rd _ _ _ _) := Rd.made _ M0 w4
  go_wp2_with fail
  refine Calls.mono ((D1 _ _).out H5.out) ?_
  rintro e w6 ⟨rfl, hr6, ho6⟩
  have H6 : Hid (Rd _ _ _ _) := hr6
  clear hr6 H5
  go_wp2_with fail
  refine Calls.mono ((D2 _ _).out H6.out) ?_
  rintro e w7 ⟨rfl, hr7, ho7⟩
  have H7 : Hid (Rd _ _ _ _) := hr7
  clear hr7 H6
  go_wp2_with fail
  refine (end_empty _ _ H7.out).mono ?_
  rintro e w8 ⟨rfl, rfl⟩
  have k4 := F4.out.size
  have F7 : Hid (Below w.heap.size w w7) := ((F4.out.alloc k4 _).trans (ho6.below k4)).trans (ho7.below k4)
  clear F4 ho6 ho7 H7 k4
  go_wp2_with fail
  generalize w7 = wA at *
  refine (read_any _ _).mono ?_
  rintro e x2 ⟨rfl, rfl⟩
  have R2 : Hid (Rd _ _ _ _) := Rd.made b gb wA
  go_wp2_with fail
  refine Calls.mono ((C1 _ _).out R2.out) ?_
  rintro e x3 ⟨rfl, hr3, ho3⟩
  have R3 : Hid (Rd _ _ _ _) := hr3
  clear hr3 R2
  go_wp2_with fail
  refine Calls.mono ((C2 _ _).out R3.out) ?_
  rintro e x4 ⟨rfl, hr4, ho4⟩
  have R4 : Hid (Rd _ _ _ _) := hr4
  clear hr4 R3
  go_wp2_with fail
  refine (err_any _ _ _ _ R4.out).mono ?_
  rintro e x5 ⟨rfl, rfl⟩
  have kA := F7.out.size
  have G4 : Hid (Below w.heap.size w x4) := ((F7.out.alloc kA _).trans (ho3.below kA)).trans (ho4.below kA)
  have z4 : Hid (wA.heap.size < x4.heap.size) := R4.out.lt
  go_wp2
  go_ret
  exact ⟨rfl, G4.out⟩

set_option maxHeartbeats 2000000 in
theorem walk3ok (size n : Int) (s b : ByteArray) (w : World) (hl : ¬ 4096 < (s.size : Int)) (hl2 : ¬ 4096 < (b.size : Int)) (ha : putE size n = 0) (ht : textE s = 0)
    (m e1 : Int) (u s1 s2 : ByteArray) (X p t : List UInt8) (gu : u.size ≤ maxLen) (K : Hid (Bk b size m u s2 X p t))
    (C1 : ∀ blk w, Hid (Rd blk b 0 w → Calls Try.prog 15 #[.pointer (some ⟨blk, 0, none⟩), .int .i64 size] w fun r w' => r = .returned (.int .i64 m) ∧ Rd blk s1 e1 w' ∧ Only blk w w'))
    (C2 : ∀ blk w, Hid (Rd blk s1 e1 w → Calls Try.prog 17 #[.pointer (some ⟨blk, 0, none⟩)] w fun r w' => r = .returned (.string u) ∧ Rd blk s2 0 w' ∧ Only blk w w')) :
    Calls Try.prog 5 #[.int .i64 size, .int .i64 n, .string s, .string b] w fun e w' => e = .returned (.bool true) ∧ Below w.heap.size w w' := by
  have gs : s.size ≤ maxLen := by unfold maxLen; omega
  have gb : b.size ≤ maxLen := by unfold maxLen; omega
  have PM : ∀ w, Hid (Calls _ _ _ w _) := fun w => put_any size m w
  rw [K.out.pS, K.out.pE] at PM
  have TU : ∀ w, Hid (Calls _ _ _ w _) := fun w => text_any u w gu
  rw [K.out.tS, K.out.tE] at TU
  have LX : p.length + t.length ≤ 4096 := by
    have h1 := K.out.len
    have h2 := congrArg List.length K.out.x
    rw [List.length_append] at h2
    omega
  have JX : ∀ w, Hid (Calls _ _ _ (World.alloc w _) _) := fun w => join2l p t w (by omega)
  rw [K.out.x] at JX
  have X1 : (X.length : Int) = (b.size : Int) - s2.size := by have := K.out.len; omega
  have X3 : (s2.size : Int) ≤ b.size := by have := K.out.len; omega
  have X2 : (X == (b.extract 0 (b.size - s2.size)).toList) = true := by
    have h1 := K.out.len
    have h2 : b.size - s2.size = X.length := by omega
    rw [h2, K.out.ext]
    simp [go_sem]
  have X4 : X.length ≤ b.size := by have := K.out.len; omega
  clear K LX
  have P : ∀ w, Hid (Calls _ _ _ w _) := fun w => put_any size n w
  have T : ∀ w, Hid (Calls _ _ _ w _) := fun w => text_any s w gs
  obtain ⟨B1, B2⟩ := back_writes size n s ha ht
  have L0 : (putS size n).length + (textS s).length ≤ 260 := by
    have l1 := putS_le size n
    have l2 := textS_le s
    omega
  rw [ha] at P
  rw [ht] at T
  clear ha ht
  have M0 : (⟨(putS size n ++ textS s).toArray⟩ : ByteArray).size ≤ maxLen := by rw [ba_size, List.length_append]; unfold maxLen; omega
  have D1 : ∀ blk w, Hid (Rd blk _ 0 w → Calls _ _ _ w _) := fun blk w h => int_any blk ⟨(putS size n ++ textS s).toArray⟩ 0 size w h
  rw [B1] at D1
  have D2 : ∀ blk w, Hid (Rd blk _ 0 w → Calls _ _ _ w _) := fun blk w h => rtext_any blk ⟨(textS s).toArray⟩ 0 w h
  rw [B2] at D2
  clear B1 B2
  generalize putS size n = p0 at *
  generalize textS s = t0 at *
  go_enter Try.func5, Try.ntmps5
  go_wp2_with fail
  refine (works_any _).mono ?_
  rintro e w1 ⟨rfl, hb1⟩
  go_wp2_with fail
  refine Calls.mono (P _).out ?_
  rintro e w2 ⟨rfl, hb2⟩
  go_wp2_with fail
  refine Calls.mono (T _).out ?_
  rintro e w3 ⟨rfl, hb3⟩
  have k1 := hb1.size
  have k2 := hb2.size
  have F3 : Hid (Below w.heap.size w w3) := (hb1.trans (hb2.mono k1)).trans (hb3.mono (by omega))
  clear hb1 hb2 hb3 k1 k2
  go_wp2_with fail
  refine (join2l p0 t0 w3 (by omega)).mono ?_
  rintro e w4 ⟨rfl, hb4⟩
  have k3 := F3.out.size
  have F4 : Hid (Below w.heap.size w w4) := F3.out.trans (hb4.mono k3)
  clear hb4 F3 k3
  go_wp2_with fail
  refine (read_any _ _).mono ?_
  rintro e w5 ⟨rfl, rfl⟩
  have H5 : Hid (Rd _ _ _ _) := Rd.made _ M0 w4
  go_wp2_with fail
  refine Calls.mono ((D1 _ _).out H5.out) ?_
  rintro e w6 ⟨rfl, hr6, ho6⟩
  have H6 : Hid (Rd _ _ _ _) := hr6
  clear hr6 H5
  go_wp2_with fail
  refine Calls.mono ((D2 _ _).out H6.out) ?_
  rintro e w7 ⟨rfl, hr7, ho7⟩
  have H7 : Hid (Rd _ _ _ _) := hr7
  clear hr7 H6
  go_wp2_with fail
  refine (end_empty _ _ H7.out).mono ?_
  rintro e w8 ⟨rfl, rfl⟩
  have k4 := F4.out.size
  have F7 : Hid (Below w.heap.size w w7) := ((F4.out.alloc k4 _).trans (ho6.below k4)).trans (ho7.below k4)
  clear F4 ho6 ho7 H7 k4
  go_wp2_with fail
  generalize w7 = wA at *
  refine (read_any _ _).mono ?_
  rintro e x2 ⟨rfl, rfl⟩
  have R2 : Hid (Rd _ _ _ _) := Rd.made b gb wA
  go_wp2_with fail
  refine Calls.mono ((C1 _ _).out R2.out) ?_
  rintro e x3 ⟨rfl, hr3, ho3⟩
  have R3 : Hid (Rd _ _ _ _) := hr3
  clear hr3 R2
  go_wp2_with fail
  refine Calls.mono ((C2 _ _).out R3.out) ?_
  rintro e x4 ⟨rfl, hr4, ho4⟩
  have R4 : Hid (Rd _ _ _ _) := hr4
  clear hr4 R3
  go_wp2_with fail
  refine (err_any _ _ _ _ R4.out).mono ?_
  rintro e x5 ⟨rfl, rfl⟩
  have kA := F7.out.size
  have G4 : Hid (Below w.heap.size w x4) := ((F7.out.alloc kA _).trans (ho3.below kA)).trans (ho4.below kA)
  have z4 : Hid (wA.heap.size < x4.heap.size) := R4.out.lt
  clear C1 C2 ho3 ho4
  go_wp2_with fail
  refine Calls.mono (PM _).out ?_
  rintro e x6 ⟨rfl, hb6⟩
  have G6 : Hid (Below w.heap.size w x6) := G4.out.trans (hb6.mono G4.out.size)
  have R6 : Hid (Rd _ _ _ _) := R4.out.below hb6 z4.out
  have z6 : Hid (wA.heap.size < x6.heap.size) := R6.out.lt
  clear hb6 R4 G4 z4
  go_wp2_with fail
  refine Calls.mono (TU _).out ?_
  rintro e x7 ⟨rfl, hb7⟩
  have G7 : Hid (Below w.heap.size w x7) := G6.out.trans (hb7.mono G6.out.size)
  have R7 : Hid (Rd _ _ _ _) := R6.out.below hb7 z6.out
  have z7 : Hid (wA.heap.size < x7.heap.size) := R7.out.lt
  clear hb7 R6 G6 z6
  go_wp2_with fail
  refine Calls.mono (JX _).out ?_
  rintro e x8 ⟨rfl, hb8⟩
  have G8 : Hid (Below w.heap.size w x8) := G7.out.trans (hb8.mono G7.out.size)
  have R8 : Hid (Rd _ _ _ _) := R7.out.below hb8 z7.out
  clear hb8 R7 G7 z7
  go_wp2_with fail
  refine (left_any _ _ _ _ R8.out).mono ?_
  rintro e x9 ⟨rfl, rfl⟩
  go_wp2
  go_ret
  exact ⟨rfl, G8.out⟩

theorem walk (size n : Int) (s b : ByteArray) (w : World) (hs : s.size ≤ maxLen) (hb : b.size ≤ maxLen) :
    Calls Try.prog 5 #[.int .i64 size, .int .i64 n, .string s, .string b] w fun e w' => e = .returned (.bool true) ∧ Below w.heap.size w w' := by
  by_cases hl : 4096 < (s.size : Int)
  · exact walk_long size n s b w hs hl
  · by_cases hl2 : 4096 < (b.size : Int)
    · exact walk_long2 size n s b w hl hb hl2
    · have C1 : ∀ blk w, Hid (Rd blk b 0 w → Calls _ _ _ w _) := fun blk w h => int_any blk b 0 size w h
      have C2 : ∀ blk w, Hid (Rd blk (rdInt b 0 size).2.1 (rdInt b 0 size).2.2 w → Calls _ _ _ w _) := fun blk w h => rtext_any blk _ _ w h
      have hA : putE size n = 1 ∨ putE size n = 0 := by unfold putE; split <;> simp
      have hT : textE s = 1 ∨ textE s = 0 := by unfold textE; split <;> simp
      by_cases he : (rdText (rdInt b 0 size).2.1 (rdInt b 0 size).2.2).2.2 = 0
      · obtain ⟨p, t, r, hbb, p1, p2, t1, t2, hr⟩ := back_reads b size he
        rw [he] at C2
        have gu : (rdText (rdInt b 0 size).2.1 (rdInt b 0 size).2.2).1.size ≤ maxLen := by
          by_cases h : (rdText (rdInt b 0 size).2.1 (rdInt b 0 size).2.2).1.size ≤ 255
          · unfold maxLen; omega
          · simp [textE, h] at t2
        have K : Hid (Bk b size (rdInt b 0 size).1 (rdText (rdInt b 0 size).2.1 (rdInt b 0 size).2.2).1 (rdText (rdInt b 0 size).2.1 (rdInt b 0 size).2.2).2.1 (p ++ t) p t) := by
          refine ⟨p1, p2, t1, t2, rfl, ?_, ?_⟩
          · rw [hr, ba_size]
            have h1 := congrArg ByteArray.size hbb
            have h2 := ba_size (p ++ t ++ r)
            rw [List.length_append] at h2
            rw [h1, h2]
          · have := ba_head (p ++ t) r
            rw [← hbb] at this
            exact this
        rcases hA with hA | hA
        · exact walk1ok size n s b w hl hl2 hA _ _ _ _ _ _ _ _ gu K C1 C2
        · rcases hT with hT | hT
          · exact walk2ok size n s b w hl hl2 hA hT _ _ _ _ _ _ _ _ gu K C1 C2
          · exact walk3ok size n s b w hl hl2 hA hT _ _ _ _ _ _ _ _ gu K C1 C2
      · have he' : ((rdText (rdInt b 0 size).2.1 (rdInt b 0 size).2.2).2.2 != 0) = true := by rw [bne_iff_ne]; exact he
        rcases hA with hA | hA
        · exact walk1err size n s b w hl hl2 hA _ _ _ _ _ _ he' C1 C2
        · rcases hT with hT | hT
          · exact walk2err size n s b w hl hl2 hA hT _ _ _ _ _ _ he' C1 C2
          · exact walk3err size n s b w hl hl2 hA hT _ _ _ _ _ _ he' C1 C2

end codecBack

end Go.Proofs.Ytciibbboimaccaa

/-
  The walk of the law EdgeKeys.
-/
import Derived.Test.YtifeeneojlhffaaEdWorks
namespace Go.Proofs.Ytifeeneojlhffaa
open Go.RowKit
namespace edgeKeys

set_option maxRecDepth 100000 in
set_option maxHeartbeats 2000000 in
theorem go_okok (u v : Int) (w : World) (K : List UInt8) (KU : Hid (∀ w, Calls Try.prog 13 #[.int .i64 u, .int .i64 v] w fun e w' => e = .returned (.tuple #[.string ⟨K.toArray⟩, .int .i64 0]) ∧ Below w.heap.size w w'))
    (VU : Hid (∀ w, Calls Try.prog 10 #[.int .i64 u] w fun e w' => e = .returned (.bool true) ∧ w = w'))
    (VV : Hid (∀ w, Calls Try.prog 10 #[.int .i64 v] w fun e w' => e = .returned (.bool true) ∧ w = w'))
    (PK : Hid (∀ w, Calls Try.prog 14 #[.string ⟨K.toArray⟩] w fun e w' => e = .returned (.tuple #[.int .i64 u, .int .i64 v, .int .i64 0]) ∧ Below w.heap.size w w'))
    (RK : Hid (∀ w, Calls Try.prog 15 #[.int .i64 u, .int .i64 v] w fun e w' => e = .returned (.string ⟨K.toArray⟩) ∧ Below w.heap.size w w'))
    (x y : Int) (Q : List UInt8) (PQ : Hid (∀ w, Calls Try.prog 14 #[.string ⟨Q.toArray⟩] w fun e w' => e = .returned (.tuple #[.int .i64 x, .int .i64 y, .int .i64 0]) ∧ Below w.heap.size w w'))
    (KQ : Hid (∀ w, Calls Try.prog 13 #[.int .i64 x, .int .i64 y] w fun e w' => e = .returned (.tuple #[.string ⟨Q.toArray⟩, .int .i64 0]) ∧ Below w.heap.size w w'))
    :
    Calls Try.prog 4 #[.int .i64 u, .int .i64 v, .string ⟨Q.toArray⟩] w fun e w' => e = .returned (.bool true) ∧ Below w.heap.size w w' := by
  go_enter Try.func4, Try.ntmps4
  go_wp2_with fail
  refine (works_any _).mono ?_
  rintro e w1 ⟨rfl, b1⟩
  have B1 : Hid (Below w.heap.size w w1) := b1
  clear b1
  go_wp2_with fail
  refine Calls.mono (KU.out _) ?_
  rintro e w2 ⟨rfl, b2⟩
  have B2 : Hid (Below w.heap.size w w2) := B1.out.trans (b2.mono B1.out.size)
  clear b2 B1
  go_wp2_with fail
  refine Calls.mono (VU.out _) ?_
  rintro e w' ⟨rfl, rfl⟩
  go_wp2_with fail
  refine Calls.mono (VV.out _) ?_
  rintro e w' ⟨rfl, rfl⟩
  go_wp2_with fail
  refine Calls.mono (PK.out _) ?_
  rintro e w3 ⟨rfl, b3⟩
  have B3 : Hid (Below w.heap.size w w3) := B2.out.trans (b3.mono B2.out.size)
  clear b3 B2
  go_wp2_with fail
  refine Calls.mono (RK.out _) ?_
  rintro e w4 ⟨rfl, b4⟩
  have B4 : Hid (Below w.heap.size w w4) := B3.out.trans (b4.mono B3.out.size)
  clear b4 B3
  go_wp2_with fail
  refine Calls.mono (PQ.out _) ?_
  rintro e w5 ⟨rfl, b5⟩
  have B5 : Hid (Below w.heap.size w w5) := B4.out.trans (b5.mono B4.out.size)
  clear b5 B4
  go_wp2_with fail
  refine Calls.mono (KQ.out _) ?_
  rintro e w6 ⟨rfl, b6⟩
  have B6 : Hid (Below w.heap.size w w6) := B5.out.trans (b6.mono B5.out.size)
  clear b6 B5
  go_wp2
  go_ret
  exact ⟨rfl, B6.out⟩

set_option maxRecDepth 100000 in
set_option maxHeartbeats 2000000 in
theorem go_okno (u v : Int) (key : ByteArray) (w : World) (K : List UInt8) (KU : Hid (∀ w, Calls Try.prog 13 #[.int .i64 u, .int .i64 v] w fun e w' => e = .returned (.tuple #[.string ⟨K.toArray⟩, .int .i64 0]) ∧ Below w.heap.size w w'))
    (VU : Hid (∀ w, Calls Try.prog 10 #[.int .i64 u] w fun e w' => e = .returned (.bool true) ∧ w = w'))
    (VV : Hid (∀ w, Calls Try.prog 10 #[.int .i64 v] w fun e w' => e = .returned (.bool true) ∧ w = w'))
    (PK : Hid (∀ w, Calls Try.prog 14 #[.string ⟨K.toArray⟩] w fun e w' => e = .returned (.tuple #[.int .i64 u, .int .i64 v, .int .i64 0]) ∧ Below w.heap.size w w'))
    (RK : Hid (∀ w, Calls Try.prog 15 #[.int .i64 u, .int .i64 v] w fun e w' => e = .returned (.string ⟨K.toArray⟩) ∧ Below w.heap.size w w'))
    (PQ : Hid (∀ w, Calls Try.prog 14 #[.string key] w fun e w' => e = .returned (.tuple #[.int .i64 0, .int .i64 0, .int .i64 30]) ∧ Below w.heap.size w w'))
    :
    Calls Try.prog 4 #[.int .i64 u, .int .i64 v, .string key] w fun e w' => e = .returned (.bool true) ∧ Below w.heap.size w w' := by
  go_enter Try.func4, Try.ntmps4
  go_wp2_with fail
  refine (works_any _).mono ?_
  rintro e w1 ⟨rfl, b1⟩
  have B1 : Hid (Below w.heap.size w w1) := b1
  clear b1
  go_wp2_with fail
  refine Calls.mono (KU.out _) ?_
  rintro e w2 ⟨rfl, b2⟩
  have B2 : Hid (Below w.heap.size w w2) := B1.out.trans (b2.mono B1.out.size)
  clear b2 B1
  go_wp2_with fail
  refine Calls.mono (VU.out _) ?_
  rintro e w' ⟨rfl, rfl⟩
  go_wp2_with fail
  refine Calls.mono (VV.out _) ?_
  rintro e w' ⟨rfl, rfl⟩
  go_wp2_with fail
  refine Calls.mono (PK.out _) ?_
  rintro e w3 ⟨rfl, b3⟩
  have B3 : Hid (Below w.heap.size w w3) := B2.out.trans (b3.mono B2.out.size)
  clear b3 B2
  go_wp2_with fail
  refine Calls.mono (RK.out _) ?_
  rintro e w4 ⟨rfl, b4⟩
  have B4 : Hid (Below w.heap.size w w4) := B3.out.trans (b4.mono B3.out.size)
  clear b4 B3
  go_wp2_with fail
  refine Calls.mono (PQ.out _) ?_
  rintro e w5 ⟨rfl, b5⟩
  have B5 : Hid (Below w.heap.size w w5) := B4.out.trans (b5.mono B4.out.size)
  clear b5 B4
  go_wp2
  go_ret
  exact ⟨rfl, B5.out⟩

set_option maxRecDepth 100000 in
set_option maxHeartbeats 2000000 in
theorem go_no1ok (u v : Int) (w : World) (bv : Bool) (KU : Hid (∀ w, Calls Try.prog 13 #[.int .i64 u, .int .i64 v] w fun e w' => e = .returned (.tuple #[.string ⟨#[]⟩, .int .i64 30]) ∧ Below w.heap.size w w'))
    (VU : Hid (∀ w, Calls Try.prog 10 #[.int .i64 u] w fun e w' => e = .returned (.bool false) ∧ w = w'))
    (VV : Hid (∀ w, Calls Try.prog 10 #[.int .i64 v] w fun e w' => e = .returned (.bool bv) ∧ w = w'))
    (x y : Int) (Q : List UInt8) (PQ : Hid (∀ w, Calls Try.prog 14 #[.string ⟨Q.toArray⟩] w fun e w' => e = .returned (.tuple #[.int .i64 x, .int .i64 y, .int .i64 0]) ∧ Below w.heap.size w w'))
    (KQ : Hid (∀ w, Calls Try.prog 13 #[.int .i64 x, .int .i64 y] w fun e w' => e = .returned (.tuple #[.string ⟨Q.toArray⟩, .int .i64 0]) ∧ Below w.heap.size w w'))
    :
    Calls Try.prog 4 #[.int .i64 u, .int .i64 v, .string ⟨Q.toArray⟩] w fun e w' => e = .returned (.bool true) ∧ Below w.heap.size w w' := by
  go_enter Try.func4, Try.ntmps4
  go_wp2_with fail
  refine (works_any _).mono ?_
  rintro e w1 ⟨rfl, b1⟩
  have B1 : Hid (Below w.heap.size w w1) := b1
  clear b1
  go_wp2_with fail
  refine Calls.mono (KU.out _) ?_
  rintro e w2 ⟨rfl, b2⟩
  have B2 : Hid (Below w.heap.size w w2) := B1.out.trans (b2.mono B1.out.size)
  clear b2 B1
  go_wp2_with fail
  refine Calls.mono (VU.out _) ?_
  rintro e w' ⟨rfl, rfl⟩
  go_wp2_with fail
  refine Calls.mono (VV.out _) ?_
  rintro e w' ⟨rfl, rfl⟩
  go_wp2_with fail
  refine Calls.mono (PQ.out _) ?_
  rintro e w3 ⟨rfl, b3⟩
  have B3 : Hid (Below w.heap.size w w3) := B2.out.trans (b3.mono B2.out.size)
  clear b3 B2
  go_wp2_with fail
  refine Calls.mono (KQ.out _) ?_
  rintro e w4 ⟨rfl, b4⟩
  have B4 : Hid (Below w.heap.size w w4) := B3.out.trans (b4.mono B3.out.size)
  clear b4 B3
  go_wp2
  go_ret
  exact ⟨rfl, B4.out⟩

set_option maxRecDepth 100000 in
set_option maxHeartbeats 2000000 in
theorem go_no1no (u v : Int) (key : ByteArray) (w : World) (bv : Bool) (KU : Hid (∀ w, Calls Try.prog 13 #[.int .i64 u, .int .i64 v] w fun e w' => e = .returned (.tuple #[.string ⟨#[]⟩, .int .i64 30]) ∧ Below w.heap.size w w'))
    (VU : Hid (∀ w, Calls Try.prog 10 #[.int .i64 u] w fun e w' => e = .returned (.bool false) ∧ w = w'))
    (VV : Hid (∀ w, Calls Try.prog 10 #[.int .i64 v] w fun e w' => e = .returned (.bool bv) ∧ w = w'))
    (PQ : Hid (∀ w, Calls Try.prog 14 #[.string key] w fun e w' => e = .returned (.tuple #[.int .i64 0, .int .i64 0, .int .i64 30]) ∧ Below w.heap.size w w'))
    :
    Calls Try.prog 4 #[.int .i64 u, .int .i64 v, .string key] w fun e w' => e = .returned (.bool true) ∧ Below w.heap.size w w' := by
  go_enter Try.func4, Try.ntmps4
  go_wp2_with fail
  refine (works_any _).mono ?_
  rintro e w1 ⟨rfl, b1⟩
  have B1 : Hid (Below w.heap.size w w1) := b1
  clear b1
  go_wp2_with fail
  refine Calls.mono (KU.out _) ?_
  rintro e w2 ⟨rfl, b2⟩
  have B2 : Hid (Below w.heap.size w w2) := B1.out.trans (b2.mono B1.out.size)
  clear b2 B1
  go_wp2_with fail
  refine Calls.mono (VU.out _) ?_
  rintro e w' ⟨rfl, rfl⟩
  go_wp2_with fail
  refine Calls.mono (VV.out _) ?_
  rintro e w' ⟨rfl, rfl⟩
  go_wp2_with fail
  refine Calls.mono (PQ.out _) ?_
  rintro e w3 ⟨rfl, b3⟩
  have B3 : Hid (Below w.heap.size w w3) := B2.out.trans (b3.mono B2.out.size)
  clear b3 B2
  go_wp2
  go_ret
  exact ⟨rfl, B3.out⟩

set_option maxRecDepth 100000 in
set_option maxHeartbeats 2000000 in
theorem go_no2ok (u v : Int) (w : World) (KU : Hid (∀ w, Calls Try.prog 13 #[.int .i64 u, .int .i64 v] w fun e w' => e = .returned (.tuple #[.string ⟨#[]⟩, .int .i64 30]) ∧ Below w.heap.size w w'))
    (VU : Hid (∀ w, Calls Try.prog 10 #[.int .i64 u] w fun e w' => e = .returned (.bool true) ∧ w = w'))
    (VV : Hid (∀ w, Calls Try.prog 10 #[.int .i64 v] w fun e w' => e = .returned (.bool false) ∧ w = w'))
    (x y : Int) (Q : List UInt8) (PQ : Hid (∀ w, Calls Try.prog 14 #[.string ⟨Q.toArray⟩] w fun e w' => e = .returned (.tuple #[.int .i64 x, .int .i64 y, .int .i64 0]) ∧ Below w.heap.size w w'))
    (KQ : Hid (∀ w, Calls Try.prog 13 #[.int .i64 x, .int .i64 y] w fun e w' => e = .returned (.tuple #[.string ⟨Q.toArray⟩, .int .i64 0]) ∧ Below w.heap.size w w'))
    :
    Calls Try.prog 4 #[.int .i64 u, .int .i64 v, .string ⟨Q.toArray⟩] w fun e w' => e = .returned (.bool true) ∧ Below w.heap.size w w' := by
  go_enter Try.func4, Try.ntmps4
  go_wp2_with fail
  refine (works_any _).mono ?_
  rintro e w1 ⟨rfl, b1⟩
  have B1 : Hid (Below w.heap.size w w1) := b1
  clear b1
  go_wp2_with fail
  refine Calls.mono (KU.out _) ?_
  rintro e w2 ⟨rfl, b2⟩
  have B2 : Hid (Below w.heap.size w w2) := B1.out.trans (b2.mono B1.out.size)
  clear b2 B1
  go_wp2_with fail
  refine Calls.mono (VU.out _) ?_
  rintro e w' ⟨rfl, rfl⟩
  go_wp2_with fail
  refine Calls.mono (VV.out _) ?_
  rintro e w' ⟨rfl, rfl⟩
  go_wp2_with fail
  refine Calls.mono (PQ.out _) ?_
  rintro e w3 ⟨rfl, b3⟩
  have B3 : Hid (Below w.heap.size w w3) := B2.out.trans (b3.mono B2.out.size)
  clear b3 B2
  go_wp2_with fail
  refine Calls.mono (KQ.out _) ?_
  rintro e w4 ⟨rfl, b4⟩
  have B4 : Hid (Below w.heap.size w w4) := B3.out.trans (b4.mono B3.out.size)
  clear b4 B3
  go_wp2
  go_ret
  exact ⟨rfl, B4.out⟩

set_option maxRecDepth 100000 in
set_option maxHeartbeats 2000000 in
theorem go_no2no (u v : Int) (key : ByteArray) (w : World) (KU : Hid (∀ w, Calls Try.prog 13 #[.int .i64 u, .int .i64 v] w fun e w' => e = .returned (.tuple #[.string ⟨#[]⟩, .int .i64 30]) ∧ Below w.heap.size w w'))
    (VU : Hid (∀ w, Calls Try.prog 10 #[.int .i64 u] w fun e w' => e = .returned (.bool true) ∧ w = w'))
    (VV : Hid (∀ w, Calls Try.prog 10 #[.int .i64 v] w fun e w' => e = .returned (.bool false) ∧ w = w'))
    (PQ : Hid (∀ w, Calls Try.prog 14 #[.string key] w fun e w' => e = .returned (.tuple #[.int .i64 0, .int .i64 0, .int .i64 30]) ∧ Below w.heap.size w w'))
    :
    Calls Try.prog 4 #[.int .i64 u, .int .i64 v, .string key] w fun e w' => e = .returned (.bool true) ∧ Below w.heap.size w w' := by
  go_enter Try.func4, Try.ntmps4
  go_wp2_with fail
  refine (works_any _).mono ?_
  rintro e w1 ⟨rfl, b1⟩
  have B1 : Hid (Below w.heap.size w w1) := b1
  clear b1
  go_wp2_with fail
  refine Calls.mono (KU.out _) ?_
  rintro e w2 ⟨rfl, b2⟩
  have B2 : Hid (Below w.heap.size w w2) := B1.out.trans (b2.mono B1.out.size)
  clear b2 B1
  go_wp2_with fail
  refine Calls.mono (VU.out _) ?_
  rintro e w' ⟨rfl, rfl⟩
  go_wp2_with fail
  refine Calls.mono (VV.out _) ?_
  rintro e w' ⟨rfl, rfl⟩
  go_wp2_with fail
  refine Calls.mono (PQ.out _) ?_
  rintro e w3 ⟨rfl, b3⟩
  have B3 : Hid (Below w.heap.size w w3) := B2.out.trans (b3.mono B2.out.size)
  clear b3 B2
  go_wp2
  go_ret
  exact ⟨rfl, B3.out⟩

theorem walk (u v : Int) (key : ByteArray) (w : World) (hk : key.size ≤ maxLen) : Calls Try.prog 4 #[.int .i64 u, .int .i64 v, .string key] w fun e w' => e = .returned (.bool true) ∧ Below w.heap.size w w' := by
  have VU : ∀ w, Calls Try.prog 10 #[.int .i64 u] w fun e w' => e = .returned (.bool (vtx u)) ∧ w = w' := fun w => rvertex_any u w
  have VV : ∀ w, Calls Try.prog 10 #[.int .i64 v] w fun e w' => e = .returned (.bool (vtx v)) ∧ w = w' := fun w => rvertex_any v w
  have KU : ∀ w, Calls Try.prog 13 #[.int .i64 u, .int .i64 v] w fun e w' => e = .returned (.tuple #[.string ⟨(keyS u v).toArray⟩, .int .i64 (keyE u v)]) ∧ Below w.heap.size w w' := fun w => key_any u v w
  have PQ : ∀ w, Calls Try.prog 14 #[.string key] w fun e w' => e = .returned (.tuple #[.int .i64 (prs key).1, .int .i64 (prs key).2.1, .int .i64 (prs key).2.2]) ∧ Below w.heap.size w w' := fun w => parse_any key w hk
  rcases prs_cases key with ⟨x, y, hp, hx, hy, hkey⟩ | hp
  · rw [hp] at PQ
    have KQ : ∀ w, Calls Try.prog 13 #[.int .i64 x, .int .i64 y] w fun e w' => e = .returned (.tuple #[.string ⟨(keyS x y).toArray⟩, .int .i64 0]) ∧ Below w.heap.size w w' := fun w => by
      have h := key_any x y w
      have e : keyE x y = 0 := by simp [keyE, hx, hy]
      rw [e] at h
      exact h
    rw [hkey] at PQ ⊢
    cases hu : vtx u
    · have e1 : keyS u v = [] := by simp [keyS, hu]
      have e2 : keyE u v = 30 := by simp [keyE, hu]
      rw [hu] at VU
      rw [e1, e2] at KU
      exact go_no1ok u v  w (vtx v) KU VU VV x y (keyS x y) PQ KQ
    · rw [hu] at VU
      cases hv : vtx v
      · have e1 : keyS u v = [] := by simp [keyS, hv]
        have e2 : keyE u v = 30 := by simp [keyE, hv]
        rw [hv] at VV
        rw [e1, e2] at KU
        exact go_no2ok u v  w KU VU VV x y (keyS x y) PQ KQ
      · have e2 : keyE u v = 0 := by simp [keyE, hu, hv]
        rw [hv] at VV
        rw [e2] at KU
        have PK : ∀ w, Calls Try.prog 14 #[.string ⟨(keyS u v).toArray⟩] w fun e w' => e = .returned (.tuple #[.int .i64 u, .int .i64 v, .int .i64 0]) ∧ Below w.heap.size w w' := fun w => by
          have hs : (⟨(keyS u v).toArray⟩ : ByteArray).size ≤ maxLen := by
            rw [ba_size]
            have : (keyS u v).length = 8 := by unfold keyS; rw [if_pos (by rw [hu, hv]; rfl), List.length_append, beBytes_length, beBytes_length]
            rw [this]; decide
          have h := parse_any _ w hs
          rw [prs_key hu hv] at h
          exact h
        exact go_okok u v  w (keyS u v) KU VU VV PK (fun w => rkey_any u v w hu hv) x y (keyS x y) PQ KQ
  · rw [hp] at PQ
    cases hu : vtx u
    · have e1 : keyS u v = [] := by simp [keyS, hu]
      have e2 : keyE u v = 30 := by simp [keyE, hu]
      rw [hu] at VU
      rw [e1, e2] at KU
      exact go_no1no u v key w (vtx v) KU VU VV PQ
    · rw [hu] at VU
      cases hv : vtx v
      · have e1 : keyS u v = [] := by simp [keyS, hv]
        have e2 : keyE u v = 30 := by simp [keyE, hv]
        rw [hv] at VV
        rw [e1, e2] at KU
        exact go_no2no u v key w KU VU VV PQ
      · have e2 : keyE u v = 0 := by simp [keyE, hu, hv]
        rw [hv] at VV
        rw [e2] at KU
        have PK : ∀ w, Calls Try.prog 14 #[.string ⟨(keyS u v).toArray⟩] w fun e w' => e = .returned (.tuple #[.int .i64 u, .int .i64 v, .int .i64 0]) ∧ Below w.heap.size w w' := fun w => by
          have hs : (⟨(keyS u v).toArray⟩ : ByteArray).size ≤ maxLen := by
            rw [ba_size]
            have : (keyS u v).length = 8 := by unfold keyS; rw [if_pos (by rw [hu, hv]; rfl), List.length_append, beBytes_length, beBytes_length]
            rw [this]; decide
          have h := parse_any _ w hs
          rw [prs_key hu hv] at h
          exact h
        exact go_okno u v key w (keyS u v) KU VU VV PK (fun w => rkey_any u v w hu hv) PQ
end edgeKeys
end Go.Proofs.Ytifeeneojlhffaa

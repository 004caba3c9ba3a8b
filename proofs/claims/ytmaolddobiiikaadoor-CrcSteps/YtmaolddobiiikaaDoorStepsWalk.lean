/-
  The walk of the law CrcSteps: one step can be undone.
-/
import Derived.Test.YtmaolddobiiikaaDoorSum
namespace Go.Proofs.YtmaolddobiiikaaDoor
open Go.RowKit
namespace crcSteps

set_option maxHeartbeats 1000000 in
theorem walkN (c d : Int) (a b : Nat) (w : World) (h : Tab w) (ha : a < 256) (hb : b < 256) :
    Calls Tryd.prog 6 #[.int .i64 c, .int .i64 d, .int .u8 a, .int .u8 b] w fun e w' => e = .returned (.bool true) ∧ Below w.heap.size w w' := by
  have T : Hid (Tab w) := h
  clear h
  have S1 : ∀ w, Tab w → Hid (Calls _ _ _ w _) := fun w h => Step_any c a ha w h
  have S2 : ∀ w, Tab w → Hid (Calls _ _ _ w _) := fun w h => Step_any d a ha w h
  have S3 : ∀ w, Tab w → Hid (Calls _ _ _ w _) := fun w h => Step_any c b hb w h
  have lc : (c % 4294967296).toNat < 4294967296 := by omega
  have ld : (d % 4294967296).toNat < 4294967296 := by omega
  have hx := stepN_lt lc ha
  have e1 : (((stepN (c % 4294967296).toNat a : Nat) : Int) == ((stepN (d % 4294967296).toNat a : Nat) : Int)) = (c % 4294967296 == d % 4294967296) := by
    rw [Bool.eq_iff_iff, beq_iff_eq, beq_iff_eq, Int.natCast_inj, stepN_inj lc ld ha]
    omega
  have e2 : (((stepN (c % 4294967296).toNat a : Nat) : Int) == ((stepN (c % 4294967296).toNat b : Nat) : Int)) = ((a : Int) == (b : Int)) := by
    rw [Bool.eq_iff_iff, beq_iff_eq, beq_iff_eq, Int.natCast_inj, Int.natCast_inj, stepN_inj_byte lc ha hb]
  clear lc ld
  generalize stepN (c % 4294967296).toNat a = x at *
  generalize stepN (d % 4294967296).toNat a = y at *
  generalize stepN (c % 4294967296).toNat b = z at *
  have hxi : (x : Int) ≤ 4294967295 := by omega
  clear hx
  go_enter Tryd.func6, Tryd.ntmps6
  go_wp2_with fail
  refine (works_any w T.out).mono ?_
  rintro e w1 ⟨rfl, hb1⟩
  have T1 : Hid (Tab w1) := T.out.below hb1
  go_wp2_with fail
  refine Calls.mono (S1 _ T1.out).out ?_
  rintro e w' ⟨rfl, rfl⟩
  go_wp2_with fail
  refine Calls.mono (S2 _ T1.out).out ?_
  rintro e w' ⟨rfl, rfl⟩
  go_wp2_with fail
  refine Calls.mono (S3 _ T1.out).out ?_
  rintro e w' ⟨rfl, rfl⟩
  go_wp2
  go_ret
  exact ⟨rfl, hb1⟩

theorem walk (c d a b : Int) (w : World) (h : Tab w) (ha : 0 ≤ a ∧ a ≤ 255) (hb : 0 ≤ b ∧ b ≤ 255) :
    Calls Tryd.prog 6 #[.int .i64 c, .int .i64 d, .int .u8 a, .int .u8 b] w fun e w' => e = .returned (.bool true) ∧ Below w.heap.size w w' := by
  obtain ⟨n, rfl⟩ := Int.eq_ofNat_of_zero_le ha.1
  obtain ⟨m, rfl⟩ := Int.eq_ofNat_of_zero_le hb.1
  exact walkN c d n m w h (by omega) (by omega)
end crcSteps
end Go.Proofs.YtmaolddobiiikaaDoor

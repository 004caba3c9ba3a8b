/-
  The walks of crc's half, step and Step, over the table as it is laid.
-/
import Derived.Test.YtalljfckjkbieaaDoorChecked
import Derived.Test.YtalljfckjkbieaaDoorCrNums
import Derived.WalkKit
import Derived.WalkSpells
import Derived.Below
namespace Go.Proofs.YtalljfckjkbieaaDoor
open Go.RowKit

/-- The table of half a byte's steps lies in its variable. -/
structure Tab (w : World) : Prop where
  lt : 0 < w.heap.size
  cell : ∀ i, i < 16 → w.cell? ⟨0, i, none⟩ = some (.int .u32 ((bit4 i : Nat) : Int))

theorem Tab.below {w w' : World} (h : Tab w) (hb : Below w.heap.size w w') : Tab w' :=
  ⟨Nat.lt_of_lt_of_le h.lt hb.size, fun i hi => by rw [hb.cell h.lt]; exact h.cell i hi⟩

theorem and15 (c : Nat) (h : c < 4294967296) : bits .and .u32 (c : Int) 15 = ((c % 16 : Nat) : Int) := by
  have := u32_and_nat c 15 h (by decide)
  rw [show ((15 : Nat) : Int) = 15 from rfl] at this
  rw [this, Nat.and_two_pow_sub_one_eq_mod c 4]

theorem xor_half (c : Nat) (h : c < 4294967296) : bits .xor .u32 ((c : Int) / 16) ((bit4 (c % 16) : Nat) : Int) = ((bit4 c : Nat) : Int) := by
  have := u32_xor_nat (c / 16) (bit4 (c % 16)) (by omega) (bit4_lt (by omega))
  rw [half_bit4] at this
  exact this

theorem half_any (c : Nat) (hc : c < 4294967296) (w : World) (h : Tab w) :
    Calls Tryd.prog 58 #[.int .u32 c] w fun r w' => r = .returned (.int .u32 ((bit4 c : Nat) : Int)) ∧ w = w' := by
  have e1 := and15 c hc
  have e2 := xor_half c hc
  have hcell := h.cell (c % 16) (Nat.mod_lt _ (by decide))
  go_enter Tryd.func58, Tryd.ntmps58
  go_wp2
  go_ret
  exact ⟨rfl, rfl⟩

theorem step_any (c b : Nat) (hc : c < 4294967296) (hb : b < 256) (w : World) (h : Tab w) :
    Calls Tryd.prog 45 #[.int .u32 c, .int .u8 b] w fun r w' => r = .returned (.int .u32 ((stepN c b : Nat) : Int)) ∧ w = w' := by
  have e1 := u32_xor_nat c b hc (by omega)
  have hx : c ^^^ b < 4294967296 := xor_lt32 hc (by omega)
  unfold stepN bit8
  generalize c ^^^ b = x at *
  have H1 : Hid _ := half_any x hx w h
  have H2 : Hid _ := half_any (bit4 x) (bit4_lt hx) w h
  clear h
  go_enter Tryd.func45, Tryd.ntmps45
  go_wp2_with fail
  refine Calls.mono H1.out ?_
  rintro e w' ⟨rfl, rfl⟩
  go_wp2_with fail
  refine Calls.mono H2.out ?_
  rintro e w' ⟨rfl, rfl⟩
  go_wp2
  go_ret
  exact ⟨rfl, rfl⟩

end Go.Proofs.YtalljfckjkbieaaDoor

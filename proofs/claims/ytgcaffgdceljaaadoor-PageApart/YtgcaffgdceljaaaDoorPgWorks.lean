/-
  The document's example, as the statements hold it.
-/
import Derived.Test.YtgcaffgdceljaaaDoorPgOpen
namespace Go.Proofs.YtgcaffgdceljaaaDoor
open Go.RowKit

theorem opn_not {id other : Int} {k : UInt8} {b : List UInt8} (h : sealE id b.length = 0) (ne : other ≠ id) : opn other (pageL id.toNat k b) = (0, [], 3) := by
  rcases opn_cases other (pageL id.toNat k b) with ⟨l, c, _, _, h3⟩ | ⟨_, h3⟩
  · exact absurd ((opn_other h).1 (by rw [h3])) ne
  · exact h3

/-- The example's page. -/
def pab : ByteArray := ⟨(pageL 7 1 [97, 98]).toArray⟩
theorem pab_size : pab.size = 256 := by rw [pab, ba_size, pageL_length _ _ _ (by decide)]
theorem pab_part : pab.extract 4 19 = ⟨#[0, 0, 0, 7, 1, 0, 0, 2, 0, 0, 0, 0, 97, 98, 0]⟩ := by decide +kernel
theorem pab_seal : sealS 7 1 [97, 98] = pageL 7 1 [97, 98] := by rw [sealS, if_pos (by decide)]; rfl

set_option maxRecDepth 100000 in
set_option maxHeartbeats 2000000 in
theorem works_any (w : World) (T : Tab w) : Calls Tryd.prog 8 #[] w fun e w' => e = .returned (.bool true) ∧ Below w.heap.size w w' := by
  have TAB : Hid (Tab w) := T
  have hz := pab_size
  have hp := pab_part
  have hm : Hid (pab.size ≤ maxLen) := by show pab.size ≤ maxLen; rw [hz]; decide
  have C1 : Hid (Calls Tryd.prog 9 #[.int .i64 7, .int .u8 1, .string ⟨#[97, 98]⟩] w fun e w' => e = .returned (.tuple #[.string pab, .int .i64 0]) ∧ Below w.heap.size w w') := by
    have := seal_any 7 1 ⟨#[97, 98]⟩ w T (by decide)
    rw [show (⟨#[97, 98]⟩ : ByteArray).data.toList = [97, 98] from rfl, pab_seal] at this
    exact this
  have C2 : Hid (∀ w1, Tab w1 → Calls Tryd.prog 11 #[.int .i64 7, .string pab] w1 fun e w' => e = .returned (.tuple #[.int .u8 1, .string ⟨#[97, 98]⟩, .int .i64 0]) ∧ Below w1.heap.size w1 w') := fun w1 T1 => by
    have := open_any 7 pab w1 T1 hm.out
    rw [show pab.data.toList = pageL (7 : Int).toNat 1 [97, 98] from rfl, opn_page 7 1 [97, 98] (by decide)] at this
    exact this
  have C3 : Hid (∀ w1, Tab w1 → Calls Tryd.prog 11 #[.int .i64 8, .string pab] w1 fun e w' => e = .returned (.tuple #[.int .u8 0, .string ⟨#[]⟩, .int .i64 3]) ∧ Below w1.heap.size w1 w') := fun w1 T1 => by
    have := open_any 8 pab w1 T1 hm.out
    rw [show pab.data.toList = pageL (7 : Int).toNat 1 [97, 98] from rfl, opn_not (by decide) (by decide)] at this
    exact this
  have C4 : Hid (∀ w1, Tab w1 → Calls Tryd.prog 13 #[.string pab] w1 fun e w' => e = .returned (.bool true) ∧ Below w1.heap.size w1 w') := fun w1 T1 => by
    have := check_any pab w1 T1 hm.out
    rw [show pab.data.toList = pageL 7 1 [97, 98] from rfl, chk_page _ _ _ (by decide)] at this
    exact this
  clear T
  generalize pab = G at *
  go_enter Tryd.func8, Tryd.ntmps8
  go_wp2_with fail
  refine Calls.mono C1.out ?_
  rintro e w1 ⟨rfl, b1⟩
  have B1 : Hid (Below w.heap.size w w1) := b1
  clear b1 C1
  have D : Hid _ := C2.out w1 (TAB.out.below B1.out)
  go_wp2_with fail
  refine Calls.mono D.out ?_
  rintro e w2 ⟨rfl, b2⟩
  have B2 : Hid (Below w.heap.size w w2) := B1.out.trans (b2.mono B1.out.size)
  clear b2 C2 D
  have D : Hid _ := C3.out w2 (TAB.out.below B2.out)
  go_wp2_with fail
  refine Calls.mono D.out ?_
  rintro e w3 ⟨rfl, b3⟩
  have B3 : Hid (Below w.heap.size w w3) := B2.out.trans (b3.mono B2.out.size)
  clear b3 C3 D
  have D : Hid _ := C4.out w3 (TAB.out.below B3.out)
  go_wp2_with fail
  refine Calls.mono D.out ?_
  rintro e w4 ⟨rfl, b4⟩
  have B4 : Hid (Below w.heap.size w w4) := B3.out.trans (b4.mono B3.out.size)
  clear b4 C4 D
  go_wp2
  go_ret
  exact ⟨rfl, B4.out⟩

end Go.Proofs.YtgcaffgdceljaaaDoor

/-
  The document's change in memory (rootstockref10): its own block, and five rows; the walks of Room, Is, grow.
-/
import Derived.Test.YtnngfkjbbedkpaaGreatDoorAlIO
import Derived.Test.YtnngfkjbbedkpaaGreatDoorBRef
import Derived.Test.YtnngfkjbbedkpaaGreatDoorAlLeast
import Derived.Deep.LoopGhost
namespace Go.Proofs.YtnngfkjbbedkpaaGreatDoor
open Go.Shelf Go.RowKit Go.Lib Go.Sort
set_option linter.unusedVariables false

structure RX where
  free : List Bool
  fresh : List Bool
  has : List Bool
  kind : List UInt8
  body : List ByteArray

section
variable {B : Nat} {w0 w : World} {a b c e f g : Res} {l : List Res}
theorem Sep.up5 (h : Sep B w0 w (a :: b :: c :: e :: f :: g :: l)) : Sep B w0 w (g :: a :: b :: c :: e :: f :: l) := (h.map fun _ h => Hp.under h fun _ h => Hp.under h fun _ h => Hp.under h fun _ h => Hp.under h fun _ => Hp.swap).up4
theorem Sep.dn5 (h : Sep B w0 w (g :: a :: b :: c :: e :: f :: l)) : Sep B w0 w (a :: b :: c :: e :: f :: g :: l) := h.dn4.map fun _ h => Hp.under h fun _ h => Hp.under h fun _ h => Hp.under h fun _ h => Hp.under h fun _ => Hp.swap
end

def rtxO (g : Nat) (v1 v2 v3 v4 v5 : Value) : Obj := .cells #[ptr g, v1, v2, v3, v4, v5] 56 (0, 0)
def r45 (v4 v5 : Value) (y : RX) : Res := Both (RowR 38 v4 (y.kind.map kdV)) (RowR 9 v5 (y.body.map Value.string))
def r345 (v3 v4 v5 : Value) (y : RX) : Res := Both (RowR 4 v3 (y.has.map Value.bool)) (r45 v4 v5 y)
def r2345 (v2 v3 v4 v5 : Value) (y : RX) : Res := Both (RowR 4 v2 (y.fresh.map Value.bool)) (r345 v3 v4 v5 y)
def r12345 (v1 v2 v3 v4 v5 : Value) (y : RX) : Res := Both (RowR 4 v1 (y.free.map Value.bool)) (r2345 v2 v3 v4 v5 y)
def rAll (r g : Nat) (v1 v2 v3 v4 v5 : Value) (y : RX) : Res := Both (Blk r (rtxO g v1 v2 v3 v4 v5)) (r12345 v1 v2 v3 v4 v5 y)
/-- The document's change of the file g. -/
def RTx (r g : Nat) (y : RX) : Res := fun w X => ∃ v1 v2 v3 v4 v5, rAll r g v1 v2 v3 v4 v5 y w X
theorem good_45 (v4 v5 : Value) (y : RX) : Good (r45 v4 v5 y) := good_both (good_row _ _ _) (good_row _ _ _)
theorem good_345 (v3 v4 v5 : Value) (y : RX) : Good (r345 v3 v4 v5 y) := good_both (good_row _ _ _) (good_45 _ _ _)
theorem good_2345 (v2 v3 v4 v5 : Value) (y : RX) : Good (r2345 v2 v3 v4 v5 y) := good_both (good_row _ _ _) (good_345 _ _ _ _)
theorem good_12345 (v1 v2 v3 v4 v5 : Value) (y : RX) : Good (r12345 v1 v2 v3 v4 v5 y) := good_both (good_row _ _ _) (good_2345 _ _ _ _ _)
theorem good_all (r g : Nat) (v1 v2 v3 v4 v5 : Value) (y : RX) : Good (rAll r g v1 v2 v3 v4 v5 y) := good_both (good_blk _ _) (good_12345 _ _ _ _ _ _)
theorem good_rtx (r g : Nat) (y : RX) : Good (RTx r g y) :=
  ⟨fun w w' X ⟨v1, v2, v3, v4, v5, h⟩ hk hs => ⟨v1, v2, v3, v4, v5, (good_all r g v1 v2 v3 v4 v5 y).kept w w' X h hk hs⟩, fun w X ⟨v1, v2, v3, v4, v5, h⟩ => (good_all r g v1 v2 v3 v4 v5 y).lt w X h⟩

section
variable {B : Nat} {w0 w : World} {l : List Res} {r g c : Nat} {y : RX} {d : Dk}
def rL (r g : Nat) (v1 v2 v3 v4 v5 : Value) (y : RX) (l : List Res) : List Res := Blk r (rtxO g v1 v2 v3 v4 v5) :: RowR 4 v1 (y.free.map Value.bool) :: RowR 4 v2 (y.fresh.map Value.bool) :: RowR 4 v3 (y.has.map Value.bool) :: RowR 38 v4 (y.kind.map kdV) :: RowR 9 v5 (y.body.map Value.string) :: l
theorem Sep.rtxOpen (h : Sep B w0 w (RTx r g y :: l)) : ∃ v1 v2 v3 v4 v5, Sep B w0 w (rL r g v1 v2 v3 v4 v5 y l) := by
  obtain ⟨hB, hb, Y, ⟨_, X, Z, ⟨v1, v2, v3, v4, v5, ha⟩, hl, hd, hy⟩, hY⟩ := h
  have h1 : Hp w (rAll r g v1 v2 v3 v4 v5 y :: l) Y := ⟨good_all _ _ _ _ _ _ _ _, X, Z, ha, hl, hd, hy⟩
  have h2 := Hp.part (good_blk _ _) (good_12345 v1 v2 v3 v4 v5 y) h1
  refine ⟨v1, v2, v3, v4, v5, hB, hb, Y, Hp.under h2 fun _ h3 => ?_, hY⟩
  refine Hp.under (Hp.part (good_row _ _ _) (good_2345 v2 v3 v4 v5 y) h3) fun _ h4 => ?_
  refine Hp.under (Hp.part (good_row _ _ _) (good_345 v3 v4 v5 y) h4) fun _ h5 => ?_
  refine Hp.under (Hp.part (good_row _ _ _) (good_45 v4 v5 y) h5) fun _ h6 => ?_
  exact Hp.part (good_row _ _ _) (good_row _ _ _) h6
theorem Sep.rtxShut {v1 v2 v3 v4 v5 : Value} (h : Sep B w0 w (rL r g v1 v2 v3 v4 v5 y l)) : Sep B w0 w (RTx r g y :: l) := by
  obtain ⟨hB, hb, Y, h1, hY⟩ := h
  have h2 : Hp w (rAll r g v1 v2 v3 v4 v5 y :: l) Y := Hp.join (Hp.under h1 fun _ h3 => Hp.join (Hp.under h3 fun _ h4 => Hp.join (Hp.under h4 fun _ h5 => Hp.join (Hp.under h5 fun _ h6 => Hp.join h6))))
  obtain ⟨_, X, Z, ha, hl, hd, hy⟩ := h2
  exact ⟨hB, hb, Y, ⟨good_rtx _ _ _, X, Z, ⟨v1, v2, v3, v4, v5, ha⟩, hl, hd, hy⟩, hY⟩
theorem rtx_cells {v1 v2 v3 v4 v5 : Value} (h : Sep B w0 w (Blk r (rtxO g v1 v2 v3 v4 v5) :: l)) : r < w.heap.size ∧ w.cell? ⟨r, 0, none⟩ = some (ptr g) ∧ w.cell? ⟨r, 1, none⟩ = some v1 ∧ w.cell? ⟨r, 2, none⟩ = some v2 ∧ w.cell? ⟨r, 3, none⟩ = some v3 ∧ w.cell? ⟨r, 4, none⟩ = some v4 ∧ w.cell? ⟨r, 5, none⟩ = some v5 ∧ ∀ i, w.frozen? ⟨r, i, none⟩ = false := by
  have hb := h.blk
  refine ⟨(Array.getElem?_eq_some_iff.1 hb).1, ?_, ?_, ?_, ?_, ?_, ?_, fun i => ?_⟩ <;> simp [World.cell?, World.frozen?, hb, rtxO]

set_option maxHeartbeats 400000 in
theorem rroom (h : Sep B w0 w (RTx r g y :: RFile g c d :: l)) : Calls Tryz.prog 42 #[ptr r] w fun e w' => e = .returned (.int .i64 (d.room : Int)) ∧ w = w' := by
  obtain ⟨v1, v2, v3, v4, v5, ho⟩ := h.rtxOpen
  obtain ⟨hr, q0, q1, q2, q3, q4, q5, qf⟩ := rtx_cells ho
  obtain ⟨k0, hg⟩ := h.up1.rcell
  obtain ⟨ao, cp, k1, hc⟩ := h.up1.rsure
  have hl : Hid (d.sure.length ≤ 16384) := h.up1.rok.len
  clear h ho
  go_enter Tryz.func42, Tryz.ntmps42
  go_wp2
  go_ret
  exact ⟨ret_int (by unfold Dk.room; omega), rfl⟩
end

end Go.Proofs.YtnngfkjbbedkpaaGreatDoor

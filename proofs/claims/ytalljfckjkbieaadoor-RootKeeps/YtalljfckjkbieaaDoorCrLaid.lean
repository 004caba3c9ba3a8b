/-
  From the rows' condition (the table of half a byte's steps reads as the program's text lays it) to what the walks ask; and that the door's own heap meets it.
-/
import Derived.Test.YtalljfckjkbieaaDoorRows
import Derived.Test.YtalljfckjkbieaaDoorCrStep
import Derived.Lib.LaidTab
import Derived.LaidMore
import Derived.MakeChecks
namespace Go.Proofs.YtalljfckjkbieaaDoor
open Go.RowKit Go.WideShapes

theorem laidOut : laidOutB Tryd.prog = true := by kernel_rfl
theorem own : ownKnob Tryd.prog.godebug = none := by kernel_rfl
theorem gHalves : Tryd.prog.globalNamed "rootstock/crc.halves" = some 0 := by kernel_rfl
theorem tHalves : (Tryd.prog.globals[0]?).map (·.type) = some 118 := by kernel_rfl

theorem cell_lt {w : World} {p : Addr} {v : Value} (h : w.cell? p = some v) : p.block < w.heap.size := by
  unfold World.cell? at h
  by_cases hb : p.block < w.heap.size
  · exact hb
  · rw [Array.getElem?_eq_none (by omega)] at h
    simp at h

theorem tab_of_laid {W : World} (h : laidMetH Tryd.prog [("rootstock/crc.halves", Rows.laid_rootstock_crc_halves)] W) : Tab W := by
  rw [MakeChecks.laidMetH_plain _ _ _ (by kernel_rfl)] at h
  have hT : Lib.TabIs Tryd.prog W "rootstock/crc.halves" .u32 tab :=
    Lib.tabIs_of_head gHalves tHalves Tryd.underlying118 Tryd.underlying96 (by kernel_rfl) (by kernel_rfl) (rest := []) h
  have hc : ∀ i, i < 16 → W.cell? ⟨0, i, none⟩ = some (.int .u32 ((bit4 i : Nat) : Int)) := fun i hi => by
    rw [← tab_bit4 i hi]
    exact hT.cell gHalves i hi
  exact ⟨cell_lt (hc 0 (by decide)), hc⟩

/-- The door's own heap meets the condition. -/
theorem door_met (os : Os) (args : Array Value) : laidMetH Tryd.prog [("rootstock/crc.halves", Rows.laid_rootstock_crc_halves)] ((World.doorLaid Tryd.prog 400 os).forCall (fun _ _ => 0) ⟨#[], args, []⟩).memory :=
  laidMetH_of_parts3 (fuel := 8) (laidMet_of_run' 8 (by kernel_rfl) (by kernel_rfl)) (by kernel_rfl) (by kernel_rfl)

end Go.Proofs.YtalljfckjkbieaaDoor

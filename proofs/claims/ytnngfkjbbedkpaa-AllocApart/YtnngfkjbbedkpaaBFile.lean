/-
  Texts of elder layers, joined: AlFile.
-/
import Derived.Test.YtnngfkjbbedkpaaBDisk
namespace Go.Proofs.Ytnngfkjbbedkpaa

/-! AlFile -/
section
open Go.RowKit
set_option linter.unusedVariables false

def Dk.room (d : Dk) : Nat := max d.sure.length 2
def fileO (b : Nat) : Obj := .cells #[ptr b] 56 (0, 0)
/-- A file. -/
def File (f b : Nat) (d : Dk) : Res := Both (Disk b d) (Blk f (fileO b))

section
variable {B : Nat} {w0 w w' : World} {f b : Nat} {d d' : Dk} {l : List Res}
theorem Sep.part (h : Sep B w0 w (File f b d :: l)) : Sep B w0 w (Disk b d :: Blk f (fileO b) :: l) := h.map fun _ => Hp.part (good_disk _ _) (good_blk _ _)
theorem Sep.fcell (h : Sep B w0 w (File f b d :: l)) : w.cell? ⟨f, 0, none⟩ = some (ptr b) ∧ f < w.heap.size := by
  have hb := h.part.up1.blk
  exact ⟨by simp [World.cell?, hb, fileO], (Array.getElem?_eq_some_iff.1 hb).1⟩
theorem Sep.fok (h : Sep B w0 w (File f b d :: l)) : d.Ok := h.part.ok

set_option maxHeartbeats 400000 in
theorem new_f (h : Sep B w0 w (Disk b d :: l)) : Calls Try.prog 6 #[ptr b] w fun e w' => ∃ f, e = .returned (ptr f) ∧ Sep B w0 w' (File f b d :: l) := by
  have S1 : Hid (Sep B w0 (w.alloc (fileO b)) (File w.heap.size b d :: l)) := (h.addBlk (fileO b)).up1.join
  unfold fileO at S1
  clear h
  go_enter Try.func6, Try.ntmps6
  go_wp2
  go_ret
  exact ⟨_, rfl, S1.out⟩

set_option maxHeartbeats 400000 in
theorem room_f (h : Sep B w0 w (File f b d :: l)) : Calls Try.prog 13 #[ptr f] w fun e w' => e = .returned (.int .i64 d.room) ∧ w = w' := by
  obtain ⟨c0, hf⟩ := h.fcell
  have C : Hid _ := sectors_s h.part
  have hl : Hid (d.sure.length ≤ 16384) := h.fok.len
  clear h
  go_enter Try.func13, Try.ntmps13
  go_wp2_with fail
  refine Calls.mono C.out ?_
  rintro e w1 ⟨rfl, rfl⟩
  clear C
  go_wp2
  go_ret
  exact ⟨ret_int (by unfold Dk.room; omega), rfl⟩

end
end

end Go.Proofs.Ytnngfkjbbedkpaa

/-
  The walks of package disk's small functions: what each call answers, and what it does to the disk's blocks.
-/
import Derived.Test.YtalljfckjkbieaaDoorMem
import Derived.BigRegion
namespace Go.Proofs.YtalljfckjkbieaaDoor
open Go.RowKit
set_option linter.unusedVariables false
open Go.ChangeMaps (setBlock)

abbrev ptr (b : Nat) : Value := .pointer (some ⟨b, 0, none⟩)
theorem ret_boolD {a b : Bool} (h : a = b) : Ending.returned (.bool a) = .returned (.bool b) := by rw [h]
theorem ret_intD {k : IntKind} {a b : Int} (h : a = b) : Ending.returned (.int k a) = .returned (.int k b) := by rw [h]
theorem ret_str {a b : ByteArray} (h : a = b) : Ending.returned (.string a) = .returned (.string b) := by rw [h]

section
variable {w : World} {b m g : Nat} {pv : Value} {br : Bool} {lf : Int} {d : Dk}
theorem Mem.c0 (h : Mem w b m g pv br lf d) : w.cell? ⟨b, 0, none⟩ = some (.slice (some ⟨g, 0, none⟩) d.sure.length d.sure.length) := by simp [World.cell?, h.blk]
theorem Mem.c1 (h : Mem w b m g pv br lf d) : w.cell? ⟨b, 1, none⟩ = some pv := by simp [World.cell?, h.blk]
theorem Mem.c2 (h : Mem w b m g pv br lf d) : w.cell? ⟨b, 2, none⟩ = some (.map (some m)) := by simp [World.cell?, h.blk]
theorem Mem.c3 (h : Mem w b m g pv br lf d) : w.cell? ⟨b, 3, none⟩ = some (.bool br) := by simp [World.cell?, h.blk]
theorem Mem.c4 (h : Mem w b m g pv br lf d) : w.cell? ⟨b, 4, none⟩ = some (.int .i64 lf) := by simp [World.cell?, h.blk]
theorem Mem.c5 (h : Mem w b m g pv br lf d) : w.cell? ⟨b, 5, none⟩ = some (.bool d.down) := by simp [World.cell?, h.blk]
theorem Mem.c6 (h : Mem w b m g pv br lf d) : w.cell? ⟨b, 6, none⟩ = some (.int .i64 d.reads) := by simp [World.cell?, h.blk]
theorem Mem.c7 (h : Mem w b m g pv br lf d) : w.cell? ⟨b, 7, none⟩ = some (.int .i64 d.writes) := by simp [World.cell?, h.blk]
theorem Mem.fz (h : Mem w b m g pv br lf d) (o : Nat) : w.frozen? ⟨b, o, none⟩ = false := by simp [World.frozen?, h.blk]
theorem Mem.pv_slice (h : Mem w b m g pv br lf d) : ∃ ao c, pv = .slice ao d.pend.length c := by
  rcases h.pnd.2 with ⟨h1, h2⟩ | ⟨x, cap, cur, h1, _⟩
  · exact ⟨_, _, by rw [h1, h2]⟩
  · exact ⟨_, _, h1⟩

set_option maxHeartbeats 400000 in
theorem down_m (h : Mem w b m g pv br lf d) : Calls Tryd.prog 61 #[ptr b] w fun e w' => e = .returned (.bool d.down) ∧ w = w' := by
  have c5 := h.c5; have lt := h.bl
  clear h
  go_enter Tryd.func61, Tryd.ntmps61
  go_wp2
  go_ret
  exact ⟨rfl, rfl⟩

set_option maxHeartbeats 400000 in
theorem sectors_m (h : Mem w b m g pv br lf d) : Calls Tryd.prog 67 #[ptr b] w fun e w' => e = .returned (.int .i64 d.sure.length) ∧ w = w' := by
  have c0 := h.c0; have lt := h.bl
  clear h
  go_enter Tryd.func67, Tryd.ntmps67
  go_wp2
  go_ret
  exact ⟨rfl, rfl⟩

set_option maxHeartbeats 400000 in
theorem has_m (h : Mem w b m g pv br lf d) (i : Int) : Calls Tryd.prog 62 #[ptr b, .int .i64 i] w fun e w' => e = .returned (.bool (d.has i)) ∧ w = w' := by
  have C : Hid (Calls Tryd.prog 67 #[ptr b] w fun e w' => e = .returned (.int .i64 d.sure.length) ∧ w = w') := sectors_m h
  have lt := h.bl
  clear h
  by_cases h0 : 0 ≤ i
  · go_enter Tryd.func62, Tryd.ntmps62
    go_wp2_with fail
    refine Calls.mono C.out ?_
    rintro e w1 ⟨rfl, rfl⟩
    go_wp2
    go_ret
    exact ⟨ret_boolD (by unfold Dk.has; simp [h0]), rfl⟩
  · have h1 : i < 0 := by omega
    go_enter Tryd.func62, Tryd.ntmps62
    go_wp2
    go_ret
    exact ⟨ret_boolD (by unfold Dk.has; simp; omega), rfl⟩

theorem Mem.cellG (h : Mem w b m g pv br lf d) {i : Nat} (hi : i < d.sure.length) : w.cell? ⟨g, i, none⟩ = some (.string (sAt d.sure i)) := by
  simp [World.cell?, h.row, hi, sAt]
theorem Mem.fzG (h : Mem w b m g pv br lf d) (o : Nat) : w.frozen? ⟨g, o, none⟩ = false := by simp [World.frozen?, h.row]

set_option maxHeartbeats 400000 in
theorem add_m (o : Nat) (x y : Int) (c : w.cell? ⟨b, o, none⟩ = some (.int .i64 x)) (f : w.frozen? ⟨b, o, none⟩ = false) : Calls Tryd.prog 63 #[.pointer (some ⟨b, o, none⟩), .int .i64 y] w fun e w' => e = .returned (.int .i64 (wrap64 (x + y))) ∧ w' = w.setCell ⟨b, o, none⟩ (.int .i64 (wrap64 (x + y))) := by
  have hl := run_call_add (P := Tryd.prog) Tryd.func68 (by kernel_rfl) (by kernel_rfl) (by kernel_rfl) .i64 (by kernel_rfl) (y := y) (s := wrap64 (x + y)) c f (by simp [go_sem, wrap64, IntKind.wrap_i64])
  go_enter Tryd.func63, Tryd.ntmps63
  go_wp2
  go_ret
  exact ⟨rfl, rfl⟩

end
end Go.Proofs.YtalljfckjkbieaaDoor

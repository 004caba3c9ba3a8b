/-
  The walks of package disk's small functions: what each call answers, and what it does to the disk's blocks.
-/
import Derived.Test.YtnmmikgmhoecpaaMem
import Derived.BigRegion
namespace Go.Proofs.Ytnmmikgmhoecpaa
open Go.RowKit
set_option linter.unusedVariables false
open Go.ChangeMaps (setBlock)

abbrev ptr (b : Nat) : Value := .pointer (some ⟨b, 0, none⟩)
theorem ret_bool {a b : Bool} (h : a = b) : Ending.returned (.bool a) = .returned (.bool b) := by rw [h]
theorem ret_int {k : IntKind} {a b : Int} (h : a = b) : Ending.returned (.int k a) = .returned (.int k b) := by rw [h]
theorem ret_str {a b : ByteArray} (h : a = b) : Ending.returned (.string a) = .returned (.string b) := by rw [h]

section
variable {w : World} {b m g : Nat} {pv : Value} {br : Bool} {lf : Int} {d : Dk}
theorem Mem.c0 (h : Mem w b m g pv br lf d) : w.cell? ⟨b, 0, none⟩ = some (.slice (some ⟨g, 0, none⟩) d.sure.length d.sure.length) := by simp [World.cell?, h.blk]
theorem Mem.c1 (h : Mem w b m g pv br lf d) : w.cell? ⟨b, 1, none⟩ = some pv := by simp [World.cell?, h.blk]
theorem Mem.c2 (h : Mem w b m g pv br lf d) : w.cell? ⟨b, 2, none⟩ = some (.map (some m)) := by simp [World.cell?, h.blk]
theorem Mem.c3 (h : Mem w b m g pv br lf d) : w.cell? ⟨b, 3, none⟩ = some (.bool br) := by simp [World.cell?, h.blk]
theorem Mem.c4 (h : Mem w b m g pv br lf d) : w.cell? ⟨b, 4, none⟩ = some (.int .i64 lf) := by simp [World.cell?, h.blk]
theorem Mem.c5 (h : Mem w b m g pv br lf d) : w.cell? ⟨b, 5, none⟩ = some (.bool d.down) := by simp [World.cell?, h.blk]
theorem Mem.c6 (h : Mem w b m g pv br lf d) : w.cell? ⟨b, 6, none⟩ = some (.int .i64 d.reads) := by simp [World.cell?, h.blk]
theorem Mem.c7 (h : Mem w b m g pv br lf d) : w.cell? ⟨b, 7, none⟩ = some (.int .i64 d.writes) := by simp [World.cell?, h.blk]
theorem Mem.fz (h : Mem w b m g pv br lf d) (o : Nat) : w.frozen? ⟨b, o, none⟩ = false := by simp [World.frozen?, h.blk]
theorem Mem.pv_slice (h : Mem w b m g pv br lf d) : ∃ ao c, pv = .slice ao d.pend.length c := by
  rcases h.pnd.2 with ⟨h1, h2⟩ | ⟨x, cap, cur, h1, _⟩
  · exact ⟨_, _, by rw [h1, h2]⟩
  · exact ⟨_, _, h1⟩

set_option maxHeartbeats 400000 in
theorem down_m (h : Mem w b m g pv br lf d) : Calls Try.prog 26 #[ptr b] w fun e w' => e = .returned (.bool d.down) ∧ w = w' := by
  have c5 := h.c5; have lt := h.bl
  clear h
  go_enter Try.func26, Try.ntmps26
  go_wp2
  go_ret
  exact ⟨rfl, rfl⟩

set_option maxHeartbeats 400000 in
theorem sectors_m (h : Mem w b m g pv br lf d) : Calls Try.prog 24 #[ptr b] w fun e w' => e = .returned (.int .i64 d.sure.length) ∧ w = w' := by
  have c0 := h.c0; have lt := h.bl
  clear h
  go_enter Try.func24, Try.ntmps24
  go_wp2
  go_ret
  exact ⟨rfl, rfl⟩

set_option maxHeartbeats 400000 in
theorem pending_m (h : Mem w b m g pv br lf d) : Calls Try.prog 25 #[ptr b] w fun e w' => e = .returned (.int .i64 d.pend.length) ∧ w = w' := by
  obtain ⟨ao, c, rfl⟩ := h.pv_slice
  have c1 := h.c1; have lt := h.bl
  clear h
  go_enter Try.func25, Try.ntmps25
  go_wp2
  go_ret
  exact ⟨rfl, rfl⟩

set_option maxHeartbeats 400000 in
theorem has_m (h : Mem w b m g pv br lf d) (i : Int) : Calls Try.prog 32 #[ptr b, .int .i64 i] w fun e w' => e = .returned (.bool (d.has i)) ∧ w = w' := by
  have C : Hid (Calls Try.prog 24 #[ptr b] w fun e w' => e = .returned (.int .i64 d.sure.length) ∧ w = w') := sectors_m h
  have lt := h.bl
  clear h
  by_cases h0 : 0 ≤ i
  · go_enter Try.func32, Try.ntmps32
    go_wp2_with fail
    refine Calls.mono C.out ?_
    rintro e w1 ⟨rfl, rfl⟩
    go_wp2
    go_ret
    exact ⟨ret_bool (by unfold Dk.has; simp [h0]), rfl⟩
  · have h1 : i < 0 := by omega
    go_enter Try.func32, Try.ntmps32
    go_wp2
    go_ret
    exact ⟨ret_bool (by unfold Dk.has; simp; omega), rfl⟩

theorem Mem.cellG (h : Mem w b m g pv br lf d) {i : Nat} (hi : i < d.sure.length) : w.cell? ⟨g, i, none⟩ = some (.string (sAt d.sure i)) := by
  simp [World.cell?, h.row, hi, sAt]
theorem Mem.fzG (h : Mem w b m g pv br lf d) (o : Nat) : w.frozen? ⟨g, o, none⟩ = false := by simp [World.frozen?, h.row]

set_option maxHeartbeats 400000 in
theorem sure_m (h : Mem w b m g pv br lf d) (i : Int) : Calls Try.prog 29 #[ptr b, .int .i64 i] w fun e w' => e = .returned (.string (d.sureAt i)) ∧ w = w' := by
  have C : Hid (Calls Try.prog 32 #[ptr b, .int .i64 i] w fun e w' => e = .returned (.bool (d.has i)) ∧ w = w') := has_m h i
  have c0 := h.c0; have lt := h.bl
  have hl := h.ok.len
  by_cases hi : d.has i = true
  · obtain ⟨h0, h1⟩ := of_decide_eq_true hi
    obtain ⟨n, rfl⟩ : ∃ n : Nat, i = n := ⟨i.toNat, by omega⟩
    have cg := h.cellG (i := n) (by omega)
    have hn : n < d.sure.length := by omega
    have HS : Hid (d.sureAt n = sAt d.sure n) := by show d.sureAt n = _; unfold Dk.sureAt; rw [if_pos hi]; rfl
    clear h
    go_enter Try.func29, Try.ntmps29
    go_wp2_with fail
    refine Calls.mono C.out ?_
    rintro e w1 ⟨rfl, rfl⟩
    go_wp2
    go_ret
    exact ⟨ret_str HS.out.symm, rfl⟩
  · have hf : d.has i = false := by simpa using hi
    have HS : Hid (d.sureAt i = ByteArray.empty) := by show d.sureAt i = _; unfold Dk.sureAt; rw [if_neg hi]
    clear h hi
    go_enter Try.func29, Try.ntmps29
    go_wp2_with fail
    refine Calls.mono C.out ?_
    rintro e w1 ⟨rfl, rfl⟩
    go_wp2
    go_ret
    exact ⟨ret_str HS.out.symm, rfl⟩

set_option maxHeartbeats 400000 in
theorem load_m (o : Nat) (x : Int) (c : w.cell? ⟨b, o, none⟩ = some (.int .i64 x)) : Calls Try.prog 38 #[.pointer (some ⟨b, o, none⟩)] w fun e w' => e = .returned (.int .i64 x) ∧ w = w' := by
  have hl := run_call_load (P := Try.prog) Try.func46 (by kernel_rfl) (by kernel_rfl) (by kernel_rfl) .i64 (by kernel_rfl) c
  go_enter Try.func38, Try.ntmps38
  go_wp2
  go_ret
  exact ⟨rfl, rfl⟩

set_option maxHeartbeats 400000 in
theorem add_m (o : Nat) (x y : Int) (c : w.cell? ⟨b, o, none⟩ = some (.int .i64 x)) (f : w.frozen? ⟨b, o, none⟩ = false) : Calls Try.prog 33 #[.pointer (some ⟨b, o, none⟩), .int .i64 y] w fun e w' => e = .returned (.int .i64 (wrap64 (x + y))) ∧ w' = w.setCell ⟨b, o, none⟩ (.int .i64 (wrap64 (x + y))) := by
  have hl := run_call_add (P := Try.prog) Try.func45 (by kernel_rfl) (by kernel_rfl) (by kernel_rfl) .i64 (by kernel_rfl) (y := y) (s := wrap64 (x + y)) c f (by simp [go_sem, wrap64, IntKind.wrap_i64])
  go_enter Try.func33, Try.ntmps33
  go_wp2
  go_ret
  exact ⟨rfl, rfl⟩

set_option maxHeartbeats 400000 in
theorem reads_m (h : Mem w b m g pv br lf d) : Calls Try.prog 27 #[ptr b] w fun e w' => e = .returned (.int .i64 d.reads) ∧ w = w' := by
  have C : Hid (Calls Try.prog 38 #[.pointer (some ⟨b, 6, none⟩)] w fun e w' => e = .returned (.int .i64 d.reads) ∧ w = w') := load_m 6 _ h.c6
  have lt := h.bl; have c6 := h.c6
  clear h
  go_enter Try.func27, Try.ntmps27
  go_wp2_with fail
  refine Calls.mono C.out ?_
  rintro e w1 ⟨rfl, rfl⟩
  go_wp2
  go_ret
  exact ⟨rfl, rfl⟩

set_option maxHeartbeats 400000 in
theorem writes_m (h : Mem w b m g pv br lf d) : Calls Try.prog 28 #[ptr b] w fun e w' => e = .returned (.int .i64 d.writes) ∧ w = w' := by
  have C : Hid (Calls Try.prog 38 #[.pointer (some ⟨b, 7, none⟩)] w fun e w' => e = .returned (.int .i64 d.writes) ∧ w = w') := load_m 7 _ h.c7
  have lt := h.bl; have c7 := h.c7
  clear h
  go_enter Try.func28, Try.ntmps28
  go_wp2_with fail
  refine Calls.mono C.out ?_
  rintro e w1 ⟨rfl, rfl⟩
  go_wp2
  go_ret
  exact ⟨rfl, rfl⟩

end
end Go.Proofs.Ytnmmikgmhoecpaa

/-
  The document's example, as the statements hold it.
-/
import Derived.Test.YtnmmikgmhoecpaaLaw
namespace Go.Proofs.Ytnmmikgmhoecpaa
open Go.RowKit
set_option linter.unusedVariables false

section
variable {B : Nat} {w0 w w' : World} {b : Nat} {d : Dk}
theorem One.below (h : One B w0 w b d) (hb : Below w.heap.size w w') : One B w0 w' b d := by
  obtain ⟨hB, hb0, X, hm, hX⟩ := h
  have t : Turn (fun _ => False) w w' := Turn.of_below hb
  exact ⟨Nat.le_trans hB hb.size, t.below hb0 hB (fun k hk => hk.elim), X, hm.kept t (fun k _ h => h), hX⟩
theorem One.alloc (h : One B w0 w b d) (o : Obj) : One B w0 (w.alloc o) b d := h.below ((Below.refl _ _).alloc (Nat.le_refl _) o)
theorem One.lt (h : One B w0 w b d) : b < w.heap.size := by
  obtain ⟨_, _, X, ⟨⟨m, g, pv, br, lf, hM, _⟩, _⟩, _⟩ := h; exact hM.bl

theorem new_o (n : Int) (w : World) (B : Nat) (w0 : World) (hB : B ≤ w.heap.size) (hb : Below B w0 w) : Calls Try.prog 11 #[.int .i64 n] w fun e w' => ∃ b, e = .returned (ptr b) ∧ One B w0 w' b (Dk.new n) := by
  refine (new_m n w).mono ?_
  rintro e w' ⟨b, he, hbl, hm⟩
  exact ⟨b, he, Nat.le_trans hB hbl.size, hb.trans (hbl.mono hB), _, hm, fun k hk => Nat.le_trans hB hk.1⟩
theorem down_o (h : One B w0 w b d) : Calls Try.prog 26 #[ptr b] w fun e w' => e = .returned (.bool d.down) ∧ w = w' := by
  obtain ⟨_, _, X, hm, _⟩ := h; exact down_c hm
theorem sectors_o (h : One B w0 w b d) : Calls Try.prog 24 #[ptr b] w fun e w' => e = .returned (.int .i64 d.sure.length) ∧ w = w' := by
  obtain ⟨_, _, X, hm, _⟩ := h; exact sectors_c hm
theorem pending_o (h : One B w0 w b d) : Calls Try.prog 25 #[ptr b] w fun e w' => e = .returned (.int .i64 d.pend.length) ∧ w = w' := by
  obtain ⟨_, _, X, hm, _⟩ := h; exact pending_c hm
theorem sure_o (h : One B w0 w b d) (i : Int) : Calls Try.prog 29 #[ptr b, .int .i64 i] w fun e w' => e = .returned (.string (d.sureAt i)) ∧ w = w' := by
  obtain ⟨_, _, X, hm, _⟩ := h; exact sure_c hm i
theorem reads_o (h : One B w0 w b d) : Calls Try.prog 27 #[ptr b] w fun e w' => e = .returned (.int .i64 d.reads) ∧ w = w' := by
  obtain ⟨_, _, X, hm, _⟩ := h; exact reads_c hm
theorem writes_o (h : One B w0 w b d) : Calls Try.prog 28 #[ptr b] w fun e w' => e = .returned (.int .i64 d.writes) ∧ w = w' := by
  obtain ⟨_, _, X, hm, _⟩ := h; exact writes_c hm
theorem read_o (h : One B w0 w b d) (i : Int) : Calls Try.prog 13 #[ptr b, .int .i64 i] w fun e w' => e = .returned (.tuple #[.string (d.get i).1.1, .int .i64 (d.get i).1.2]) ∧ One B w0 w' b (d.get i).2 := by
  obtain ⟨hB, hb, X, hm, hX⟩ := h
  refine (read_c hm i).mono ?_
  rintro e w' ⟨he, hg⟩
  exact ⟨he, One.goes hB hb hX hg⟩
theorem write_o (h : One B w0 w b d) (i : Int) (s : ByteArray) (hs : s.size ≤ maxLen) (hp : d.pend.length < 100000) : Calls Try.prog 15 #[ptr b, .int .i64 i, .string s] w fun e w' => e = .returned (.int .i64 (d.put i s).1) ∧ One B w0 w' b (d.put i s).2 := by
  obtain ⟨hB, hb, X, hm, hX⟩ := h
  refine (write_c hm i s hs hp).mono ?_
  rintro e w' ⟨he, hg⟩
  exact ⟨he, One.goes hB hb hX hg⟩
theorem sync_o (h : One B w0 w b d) (hp : d.pend.length < 100000) : Calls Try.prog 18 #[ptr b] w fun e w' => e = .returned (.int .i64 d.sync.1) ∧ One B w0 w' b d.sync.2 := by
  obtain ⟨hB, hb, X, hm, hX⟩ := h
  refine (sync_c hm hp).mono ?_
  rintro e w' ⟨he, hg⟩
  exact ⟨he, One.goes hB hb hX hg⟩
theorem break_o (h : One B w0 w b d) (n : Int) (hn : n ≤ 9223372036854775807) : Calls Try.prog 20 #[ptr b, .int .i64 n] w fun e w' => e = .returned (.tuple #[]) ∧ One B w0 w' b (d.stop n) := by
  obtain ⟨hB, hb, X, hm, hX⟩ := h
  refine (break_c hm n hn).mono ?_
  rintro e w' ⟨he, hg⟩
  exact ⟨he, One.goes hB hb hX hg⟩
theorem crash_o (h : One B w0 w b d) (kv : Value) (keep : List Int) (hkv : IntRow w kv keep) (torn cut : Int) (hp : d.pend.length < 100000) (hk : keep.length < 100000) : Calls Try.prog 22 #[ptr b, kv, .int .i64 torn, .int .i64 cut] w fun e w' => e = .returned (.tuple #[]) ∧ One B w0 w' b (d.crash keep torn cut) := by
  obtain ⟨hB, hb, X, hm, hX⟩ := h
  refine (crash_c hm kv keep hkv torn cut hp hk).mono ?_
  rintro e w' ⟨he, hg⟩
  exact ⟨he, One.goes hB hb hX hg⟩
theorem page_o (b : Nat) (hb : b < 256) (w : World) : Calls Try.prog 16 #[.int .u8 (b : Nat)] w fun e w' => e = .returned (.string (pageS b)) ∧ Below w.heap.size w w' := page_c b hb w
end

def kk0 : Dk := Dk.new 2
def kk1 : Int × Dk := kk0.put 0 (pageS 97)
def kk2 : Int × Dk := kk1.2.put 0 (pageS 98)
def kk3 : Int × Dk := kk2.2.put 1 (pageS 99)
def kk4 : Dk := kk3.2.crash [0, 2] 2 3
def kk5 : (ByteArray × Int) × Dk := kk4.get 0
def kk6 : (ByteArray × Int) × Dk := kk5.2.get 1
def kk7 : (ByteArray × Int) × Dk := kk6.2.get 2
def ccc : ByteArray := kk6.1.1
theorem kk_1 : kk1.1 = 0 ∧ kk2.1 = 0 ∧ kk3.1 = 0 ∧ kk1.2.pend.length = 1 ∧ kk2.2.pend.length = 2 ∧ kk3.2.pend.length = 3 := by decide +kernel
theorem kk_5 : kk5.1.1 = pageS 97 ∧ kk5.1.2 = 0 ∧ kk6.1.2 = 0 ∧ kk7.1.2 = 40 ∧ ccc.size = 256 ∧ ccc.extract 0 4 = ⟨#[99, 99, 99, 0]⟩ := by decide +kernel
theorem kk_7 : kk7.2.sure.length = 2 ∧ kk7.2.writes = 3 ∧ kk7.2.reads = 2 := by decide +kernel

theorem row_two (w : World) : IntRow (w.alloc (.cells #[.int .i64 0, .int .i64 2] 3)) (.slice (some ⟨w.heap.size, 0, none⟩) 2 2) [0, 2] := by
  refine ⟨some ⟨w.heap.size, 0, none⟩, 2, rfl, fun _ => ⟨w.heap.size, 0, rfl, by simp, fun j hj => ?_⟩⟩
  match j, hj with
  | 0, _ => rw [World.cell?_alloc_at #[.int .i64 0, .int .i64 2] 3 _ _ rfl]; rfl
  | 1, _ => rw [World.cell?_alloc_at #[.int .i64 0, .int .i64 2] 3 _ _ rfl]; rfl

set_option maxHeartbeats 4000000 in
set_option maxRecDepth 100000 in
theorem works_c (w : World) : Calls Try.prog 9 #[] w fun e w' => e = .returned (.bool true) ∧ Below w.heap.size w w' := by
  obtain ⟨a1, a2, a3, p1, p2, p3⟩ := kk_1
  obtain ⟨b1, b2, b3, b4, b5, b6⟩ := kk_5
  obtain ⟨z1, z2, z3⟩ := kk_7
  have C : Hid _ := new_o 2 w w.heap.size w (Nat.le_refl _) (Below.refl _ _)
  go_enter Try.func9, Try.ntmps9
  go_wp2_with fail
  refine Calls.mono C.out ?_
  rintro e w1 ⟨b, rfl, o1⟩
  have O1 : Hid (One w.heap.size w w1 b kk0) := o1
  clear o1 C
  go_wp2_with fail
  refine Calls.mono (page_o 97 (by decide) w1) ?_
  rintro e w2 ⟨rfl, l2⟩
  have O2 : Hid (One w.heap.size w w2 b kk0) := O1.out.below l2
  clear l2 O1
  have C : Hid (Calls Try.prog 15 #[ptr b, .int .i64 0, .string (pageS 97)] w2 fun e w' => e = .returned (.int .i64 kk1.1) ∧ One w.heap.size w w' b kk1.2) := write_o O2.out 0 _ (pageS_le _) (by decide)
  go_wp2_with fail
  refine Calls.mono C.out ?_
  rintro e w3 ⟨rfl, o3⟩
  have O3 : Hid (One w.heap.size w w3 b kk1.2) := o3
  clear o3 C O2
  go_wp2_with fail
  refine Calls.mono (page_o 98 (by decide) w3) ?_
  rintro e w4 ⟨rfl, l2⟩
  have O4 : Hid (One w.heap.size w w4 b kk1.2) := O3.out.below l2
  clear l2 O3
  have C : Hid (Calls Try.prog 15 #[ptr b, .int .i64 0, .string (pageS 98)] w4 fun e w' => e = .returned (.int .i64 kk2.1) ∧ One w.heap.size w w' b kk2.2) := write_o O4.out 0 _ (pageS_le _) (by omega)
  go_wp2_with fail
  refine Calls.mono C.out ?_
  rintro e w5 ⟨rfl, o3⟩
  have O5 : Hid (One w.heap.size w w5 b kk2.2) := o3
  clear o3 C O4
  go_wp2_with fail
  refine Calls.mono (page_o 99 (by decide) w5) ?_
  rintro e w6 ⟨rfl, l2⟩
  have O6 : Hid (One w.heap.size w w6 b kk2.2) := O5.out.below l2
  clear l2 O5
  have C : Hid (Calls Try.prog 15 #[ptr b, .int .i64 1, .string (pageS 99)] w6 fun e w' => e = .returned (.int .i64 kk3.1) ∧ One w.heap.size w w' b kk3.2) := write_o O6.out 1 _ (pageS_le _) (by omega)
  go_wp2_with fail
  refine Calls.mono C.out ?_
  rintro e w7 ⟨rfl, o3⟩
  have O7 : Hid (One w.heap.size w w7 b kk3.2) := o3
  clear o3 C O6
  have C : Hid _ := pending_o O7.out
  go_wp2_with fail
  refine Calls.mono C.out ?_
  rintro e w8 ⟨rfl, rfl⟩
  clear C
  have O8 : Hid (One w.heap.size w (w7.alloc (.cells #[.int .i64 0, .int .i64 2] 3)) b kk3.2) := O7.out.alloc _
  have C : Hid (Calls Try.prog 22 #[ptr b, .slice (some ⟨w7.heap.size, 0, none⟩) 2 2, .int .i64 2, .int .i64 3] (w7.alloc (.cells #[.int .i64 0, .int .i64 2] 3)) fun e w' => e = .returned (.tuple #[]) ∧ One w.heap.size w w' b kk4) := crash_o O8.out _ _ (row_two w7) 2 3 (by omega) (by decide)
  go_wp2_with fail
  refine Calls.mono C.out ?_
  rintro e w9 ⟨rfl, o3⟩
  have O9 : Hid (One w.heap.size w w9 b kk4) := o3
  clear o3 C O7 O8
  have C : Hid (Calls Try.prog 13 #[ptr b, .int .i64 0] w9 fun e w' => e = .returned (.tuple #[.string kk5.1.1, .int .i64 kk5.1.2]) ∧ One w.heap.size w w' b kk5.2) := read_o O9.out 0
  go_wp2_with fail
  refine Calls.mono C.out ?_
  rintro e w10 ⟨rfl, o3⟩
  have O10 : Hid (One w.heap.size w w10 b kk5.2) := o3
  clear o3 C O9
  have C : Hid (Calls Try.prog 13 #[ptr b, .int .i64 1] w10 fun e w' => e = .returned (.tuple #[.string ccc, .int .i64 kk6.1.2]) ∧ One w.heap.size w w' b kk6.2) := read_o O10.out 1
  go_wp2_with fail
  refine Calls.mono C.out ?_
  rintro e w11 ⟨rfl, o3⟩
  have O11 : Hid (One w.heap.size w w11 b kk6.2) := o3
  clear o3 C O10
  have C : Hid (Calls Try.prog 13 #[ptr b, .int .i64 2] w11 fun e w' => e = .returned (.tuple #[.string kk7.1.1, .int .i64 kk7.1.2]) ∧ One w.heap.size w w' b kk7.2) := read_o O11.out 2
  go_wp2_with fail
  refine Calls.mono C.out ?_
  rintro e w12 ⟨rfl, o3⟩
  have O12 : Hid (One w.heap.size w w12 b kk7.2) := o3
  clear o3 C O11
  go_wp2_with fail
  refine Calls.mono (page_o 97 (by decide) w12) ?_
  rintro e w13 ⟨rfl, l2⟩
  have O13 : Hid (One w.heap.size w w13 b kk7.2) := O12.out.below l2
  clear l2 O12
  have C1 : Hid _ := sectors_o O13.out
  have C2 : Hid _ := writes_o O13.out
  have C3 : Hid _ := reads_o O13.out
  go_wp2_with fail
  refine Calls.mono C1.out ?_
  rintro e w14 ⟨rfl, rfl⟩
  go_wp2_with fail
  refine Calls.mono C2.out ?_
  rintro e w14 ⟨rfl, rfl⟩
  go_wp2_with fail
  refine Calls.mono C3.out ?_
  rintro e w14 ⟨rfl, rfl⟩
  go_wp2
  go_ret
  exact ⟨rfl, O13.out.2.1⟩

end Go.Proofs.Ytnmmikgmhoecpaa

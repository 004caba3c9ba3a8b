/-
  The walk of New.
-/
import Derived.Test.YtnmmikgmhoecpaaChg
import Derived.Test.YtnmmikgmhoecpaaShelf
import Derived.Deep.LoopGhost
namespace Go.Proofs.Ytnmmikgmhoecpaa
open Go.RowKit
set_option linter.unusedVariables false
open Go.ChangeMaps (setBlock)

theorem infoString : (Try.prog.info? 9).map (fun i => (i.zero, i.size, i.bytes)) = some (some (.string ByteArray.empty), 1, 16) := by kernel_rfl

def fillTo (N t : Nat) : List ByteArray := List.replicate t zeroS ++ List.replicate (N - t) ByteArray.empty
theorem fillTo_length {N t : Nat} (h : t ≤ N) : (fillTo N t).length = N := by simp [fillTo]; omega
theorem fillTo_set {N t : Nat} (h : t < N) : fillTo N (t + 1) = (fillTo N t).set t zeroS := by
  unfold fillTo
  rw [List.set_append_right _ _ (by simp), show N - t = (N - (t + 1)) + 1 by omega, List.replicate_succ' (n := t), List.replicate_succ (n := N - (t + 1))]
  simp
theorem fillTo_end (N : Nat) : fillTo N N = List.replicate N zeroS := by simp [fillTo]

theorem make_strs (w : World) (N : Nat) (hN : N < 1000000) : (Instr.makeSlice 41 (.int .i64 N) (.int .i64 N)).run Try.prog w = .ok (.slice (some ⟨w.heap.size, 0, none⟩) N N) (w.alloc (.cells ((fillTo N 0).map Value.string).toArray 9)) := by
  obtain ⟨i0, hi, hz0, hz1, hz2⟩ := info_parts infoString
  have h := run_make (P := Try.prog) w 41 9 i0 _ Try.underlying41 hi hz0 .i64 .i64 N N (by omega) (Int.le_refl _) (by rw [hz2]; omega) (by omega)
  rw [h]
  have e : madeCells (Value.string ByteArray.empty).cells ((N : Int).toNat * i0.size) = ((fillTo N 0).map Value.string).toArray := by
    rw [hz1, Int.toNat_natCast, Nat.mul_one]
    apply Array.toList_inj.1
    rw [show (Value.string ByteArray.empty).cells = #[Value.string ByteArray.empty] from rfl, toList_madeCells_one]
    simp [fillTo]
  rw [e]
  simp

theorem repeat_zero : (⟨(Lib.repeatL [0] 256).toArray⟩ : ByteArray) = zeroS := by decide +kernel

set_option maxHeartbeats 4000000 in
set_option maxRecDepth 100000 in
theorem new_m (n : Int) (w : World) : Calls Try.prog 11 #[.int .i64 n] w fun e w' => ∃ b, e = .returned (ptr b) ∧ Below w.heap.size w w' ∧ Mine (fun k => w.heap.size ≤ k ∧ k < w'.heap.size) w' b (Dk.new n) := by
  obtain ⟨N, hN⟩ : ∃ N : Nat, N = (min (max n 0) 16384).toNat := ⟨_, rfl⟩
  have hNl : N ≤ 16384 := by omega
  have HD : Hid (Dk.new n = ⟨List.replicate N zeroS, [], none, false, 0, 0⟩) := by show Dk.new n = _; unfold Dk.new; rw [hN]
  have OKD : Hid ((Dk.new n).Ok) := Dk.new_ok n
  have hmk := make_strs w N (by omega)
  have hmm := @run_makeMap Try.prog
  obtain ⟨w1, e1⟩ : ∃ w1, w1 = w.alloc (.cells ((fillTo N 0).map Value.string).toArray 9) := ⟨_, rfl⟩
  rw [← e1] at hmk
  have Q1 : Hid (w1.heap[w.heap.size]? = some (.cells ((fillTo N 0).map Value.string).toArray 9 (0, 0))) := by show _ = _; rw [e1]; exact heap_alloc_new w _
  have B1 : Hid (Below w.heap.size w w1) := by show Below _ _ _; rw [e1]; exact (Below.refl _ _).alloc (Nat.le_refl _) _
  have S1 : w1.heap.size = w.heap.size + 1 := by rw [e1]; simp
  clear e1
  have hmx : min (max n 0) 16384 = (N : Int) := by omega
  clear hN
  go_enter Try.func11, Try.ntmps11
  go_wp2_with fail
  obtain ⟨w3, e3⟩ : ∃ w3, w3 = (w1.alloc (.map #[] 0)).alloc (.cells #[.slice (some ⟨w.heap.size, 0, none⟩) N N, .slice none 0 0, .map (some (w.heap.size + 1)), .bool false, .int .i64 0, .bool false, .int .i64 0, .int .i64 0] 59) := ⟨_, rfl⟩
  rw [← e3]
  have hA : (w1.alloc (.map #[] 0)).heap.size = w.heap.size + 1 + 1 := by simp [S1]
  have P3 : Hid (w3.heap[w.heap.size + 1 + 1]? = some (.cells #[.slice (some ⟨w.heap.size, 0, none⟩) N N, .slice none 0 0, .map (some (w.heap.size + 1)), .bool false, .int .i64 0, .bool false, .int .i64 0, .int .i64 0] 59 (0, 0))) := by
    show _ = _
    rw [e3, ← hA]; exact heap_alloc_new _ _
  have K3 : Hid (∀ k, k < w1.heap.size → w3.heap[k]? = w1.heap[k]?) := fun k hk => by
    rw [e3]; exact (Below.heap_alloc _ _ k (by rw [hA]; omega)).trans (Below.heap_alloc _ _ k hk)
  have N3 : Hid (w3.heap[w.heap.size + 1]? = some (.map #[] 0)) := by
    show _ = _
    rw [e3, Below.heap_alloc _ _ _ (by rw [hA]; omega), ← S1]; exact heap_alloc_new _ _
  have S3 : w3.heap.size = w.heap.size + 3 := by rw [e3]; simp [S1]
  have B3 : Hid (Below w.heap.size w w3) := by show Below _ _ _; rw [e3]; exact (B1.out.alloc (by omega) _).alloc (by rw [hA]; omega) _
  clear e3 hA
  have RC : Hid (Calls Try.prog 30 #[.string ⟨#[0]⟩, .int .i64 (256 : Nat)] w3 fun e w' => e = .returned (.string ⟨(Lib.repeatL [0] 256).toArray⟩) ∧ Below w3.heap.size w3 w') := Try.strings_Repeat ⟨#[0]⟩ 256 w3 (by omega) (by show 1 * 256 ≤ _; omega)
  refine Calls.mono RC.out ?_
  rintro e w4 ⟨rfl, b4⟩
  rw [repeat_zero]
  have B4 : Hid (Below w3.heap.size w3 w4) := b4
  have s4 : w.heap.size + 3 ≤ w4.heap.size := by rw [← S3]; exact b4.size
  have P4 : Hid (w4.heap[w.heap.size + 1 + 1]? = some (.cells #[.slice (some ⟨w.heap.size, 0, none⟩) N N, .slice none 0 0, .map (some (w.heap.size + 1)), .bool false, .int .i64 0, .bool false, .int .i64 0, .int .i64 0] 59 (0, 0))) := (b4.block _ (by omega)).trans P3.out
  have N4 : Hid (w4.heap[w.heap.size + 1]? = some (.map #[] 0)) := (b4.block _ (by omega)).trans N3.out
  have Q4 : Hid (w4.heap[w.heap.size]? = some (.cells ((fillTo N 0).map Value.string).toArray 9 (0, 0))) := (b4.block _ (by omega)).trans ((K3.out _ (by omega)).trans Q1.out)
  have c0 : w4.cell? ⟨w.heap.size + 1 + 1, 0, none⟩ = some (.slice (some ⟨w.heap.size, 0, none⟩) N N) := by simp [World.cell?, P4.out]
  have lt4 : w.heap.size + 1 + 1 < w4.heap.size := by omega
  clear b4 RC hmm hmk hmx
  obtain ⟨z, hz⟩ : ∃ z, z = zeroS := ⟨_, rfl⟩
  rw [← hz]
  have HZ : Hid (z = zeroS) := hz
  clear hz
  go_wp2
  go_loopg [19] N (fun gk s19 wr => ∃ t : Nat, s19 = .int .i64 t ∧ t ≤ N ∧ N - t ≤ gk ∧ Aside (wr.heap[w.heap.size]? = some (.cells ((fillTo N t).map Value.string).toArray 9 (0, 0))) ∧ Hid (Only w.heap.size w4 wr))
  case atStart => exact ⟨0, rfl, Nat.zero_le _, Nat.le_refl _, Q4.out, Only.refl _ _⟩
  case round =>
    obtain ⟨t, rfl, ht, hgt, HQ, HO⟩ := hrel
    have cr : wr.cell? ⟨w.heap.size + 1 + 1, 0, none⟩ = some (.slice (some ⟨w.heap.size, 0, none⟩) N N) := (World.cell?_of_block (a := ⟨w.heap.size + 1 + 1, 0, none⟩) (HO.out.block _ (by show w.heap.size + 1 + 1 ≠ w.heap.size; omega))).trans c0
    have ltr : w.heap.size + 1 + 1 < wr.heap.size := by rw [HO.out.size]; exact lt4
    by_cases htl : t < N
    · have htz : (t : Int) < (N : Int) := by omega
      have q0 : wr.cell? ⟨w.heap.size, t, none⟩ = some (.string (sAt (fillTo N t) t)) := by
        have hl : t < (fillTo N t).length := by rw [fillTo_length ht]; exact htl
        simp only [World.cell?, HQ.out]
        simp [sAt, hl]
      have qf : wr.frozen? ⟨w.heap.size, t, none⟩ = false := by simp [World.frozen?, HQ.out]
      have Hfs : Hid (fillTo N (t + 1) = (fillTo N t).set t zeroS) := fillTo_set htl
      generalize sAt (fillTo N t) t = old at *
      go_wp2
      go_roundg (N - (t + 1))
      case measure => omega
      case rel =>
        refine ⟨t + 1, by go_num, by omega, Nat.le_refl _, ?_, HO.out.trans (Only.setCell _ _ _ _)⟩
        show _ = _
        rw [Hfs.out, HZ.out]
        simp [World.setCell, Array.getElem?_modify, HQ.out]
    · have htz : ¬ (t : Int) < (N : Int) := by omega
      obtain rfl : t = N := by omega
      have fin : Below w.heap.size w wr ∧ Mine (fun k => w.heap.size ≤ k ∧ k < wr.heap.size) wr (w.heap.size + 1 + 1) (Dk.new n) := by
        refine ⟨B3.out.trans ⟨HO.out.os.trans B4.out.os, HO.out.tape.trans B4.out.tape, HO.out.output.trans B4.out.output, by rw [HO.out.size]; omega, fun k hk => (HO.out.block k (by omega)).trans (B4.out.block k (by omega))⟩, ⟨w.heap.size + 1, w.heap.size, .slice none 0 0, false, 0, ?_, by omega, by omega, by omega, fun k hk => by simp [Value.ownBlock] at hk⟩, fun k hk => hk.2⟩
        have OK := OKD.out
        rw [HD.out] at OK ⊢
        refine ⟨?_, ?_, World.ownsRow_nil _ _ _ _, ?_, fun _ => .inl ⟨rfl, rfl⟩, OK, by omega, by omega, by omega, by simp [Value.ownBlock], by simp [Value.ownBlock], by simp [Value.ownBlock]⟩
        · rw [HO.out.block _ (by omega), P4.out]; simp
        · rw [HQ.out, fillTo_end]
        · rw [mapOf_nil]; exact MapIs.empty ((HO.out.block _ (by omega)).trans N4.out)
      have FIN : Hid (Below w.heap.size w wr ∧ Mine (fun k => w.heap.size ≤ k ∧ k < wr.heap.size) wr (w.heap.size + 1 + 1) (Dk.new n)) := fin
      clear fin HQ HO
      go_wp2
      go_ret
      exact ⟨_, rfl, FIN.out⟩

end Go.Proofs.Ytnmmikgmhoecpaa

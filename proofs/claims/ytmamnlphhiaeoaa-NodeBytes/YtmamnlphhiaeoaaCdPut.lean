/-
  The walk of codec.Put: a number as bytes, or refused.
-/
import Derived.Test.YtmamnlphhiaeoaaCdMid
namespace Go.Proofs.Ytmamnlphhiaeoaa
open Go.RowKit

/-- Whether a number can be put into so many bytes. -/
def putB (size n : Int) : Bool := szB size && decide (0 ≤ n ∧ n < ((256 ^ size.toNat : Nat) : Int))
/-- The bytes that Put answers. -/
def putS (size n : Int) : List UInt8 := if putB size n = true then beBytes size.toNat n.toNat else []
/-- The error that Put answers. -/
def putE (size n : Int) : Int := if putB size n = true then 0 else 1

set_option maxHeartbeats 400000 in
theorem put_size (size n : Int) (w : World) (h : szB size = false) :
    Calls Try.prog 57 #[.int .i64 size, .int .i64 n] w fun r w' => r = .returned (.tuple #[.string ⟨#[]⟩, .int .i64 1]) ∧ w = w' := by
  go_enter Try.func57, Try.ntmps57
  go_wp2_with (go_at_call 66; refine (isSize_any _ _).mono ?_; rintro e w' ⟨rfl, rfl⟩)
  go_ret2
  exact ⟨rfl, rfl⟩

set_option maxHeartbeats 400000 in
theorem put_neg (size n : Int) (w : World) (h : szB size = true) (hn : n < 0) :
    Calls Try.prog 57 #[.int .i64 size, .int .i64 n] w fun r w' => r = .returned (.tuple #[.string ⟨#[]⟩, .int .i64 1]) ∧ w = w' := by
  go_enter Try.func57, Try.ntmps57
  go_wp2_with (go_at_call 66; refine (isSize_any _ _).mono ?_; rintro e w' ⟨rfl, rfl⟩)
  go_ret2
  exact ⟨rfl, rfl⟩

set_option maxHeartbeats 400000 in
theorem put_big1 (n : Int) (w : World) (hn : ¬ n < 0) (hb : (n / 256 != 0) = true) :
    Calls Try.prog 57 #[.int .i64 1, .int .i64 n] w fun r w' => r = .returned (.tuple #[.string ⟨#[]⟩, .int .i64 1]) ∧ w = w' := by
  have h : szB 1 = true := rfl
  go_enter Try.func57, Try.ntmps57
  go_wp2_with (go_at_call 66; refine (isSize_any _ _).mono ?_; rintro e w' ⟨rfl, rfl⟩)
  go_ret2
  exact ⟨rfl, rfl⟩

set_option maxHeartbeats 400000 in
theorem put_big2 (n : Int) (w : World) (hn : ¬ n < 0) (hb : (n / 65536 != 0) = true) :
    Calls Try.prog 57 #[.int .i64 2, .int .i64 n] w fun r w' => r = .returned (.tuple #[.string ⟨#[]⟩, .int .i64 1]) ∧ w = w' := by
  have h : szB 2 = true := rfl
  go_enter Try.func57, Try.ntmps57
  go_wp2_with (go_at_call 66; refine (isSize_any _ _).mono ?_; rintro e w' ⟨rfl, rfl⟩)
  go_ret2
  exact ⟨rfl, rfl⟩

set_option maxHeartbeats 400000 in
theorem put_big4 (n : Int) (w : World) (hn : ¬ n < 0) (hb : (n / 4294967296 != 0) = true) :
    Calls Try.prog 57 #[.int .i64 4, .int .i64 n] w fun r w' => r = .returned (.tuple #[.string ⟨#[]⟩, .int .i64 1]) ∧ w = w' := by
  have h : szB 4 = true := rfl
  go_enter Try.func57, Try.ntmps57
  go_wp2_with (go_at_call 66; refine (isSize_any _ _).mono ?_; rintro e w' ⟨rfl, rfl⟩)
  go_ret2
  exact ⟨rfl, rfl⟩

theorem conv_new (l : List UInt8) (cs : Array Value) (w : World) (m c : Nat) (hcs : cs = (l.map fun b => Value.int .u8 (b.toNat : Int)).toArray) (hm : m = l.length) :
    Sem.run Try.prog (convert 72 9 (.slice (some ⟨w.heap.size, 0, none⟩) m c)) (w.alloc (.cells cs 5)) = .ok (.string ⟨l.toArray⟩) (w.alloc (.cells cs 5)) := by
  subst hm
  refine run_convert_bytes_back _ 72 9 5 _ c l Try.underlying72 Try.underlying5 Try.underlying9 (fun j hj => ?_)
  have e : (⟨w.heap.size, 0, none⟩ : Addr).add j = ⟨w.heap.size, j, none⟩ := by simp [Addr.add]; intro h; omega
  rw [e, World.cell?_alloc_at cs 5 _ j rfl, hcs]
  simp [List.getElem?_eq_getElem hj]

set_option maxRecDepth 100000 in
set_option maxHeartbeats 1000000 in
theorem put1 (n : Nat) (w : World) (hn : n < 256) :
    Calls Try.prog 57 #[.int .i64 1, .int .i64 n] w fun r w' => r = .returned (.tuple #[.string ⟨(beBytes 1 n).toArray⟩, .int .i64 0]) ∧ Below w.heap.size w w' := by
  have h : szB 1 = true := rfl
  have hb : (((n : Int) / 256) != 0) = false := by simp; omega
  have hn0 : ¬ (n : Int) < 0 := by omega
  have hmk : ∀ w, (Instr.makeSlice 72 (.int .i64 1) (.int .i64 1)).run Try.prog w = .ok (.slice (some ⟨w.heap.size, 0, none⟩) 1 1) (w.alloc (.cells #[.int .u8 0] 5)) := fun _ => by kernel_rfl
  have hcv := conv_new (beBytes 1 n) #[.int .u8 (n : Int)] w 1 1 (by simp [beBytes]; omega) (beBytes_length _ _).symm
  go_enter Try.func57, Try.ntmps57
  go_wp2_with (go_at_call 66; refine (isSize_any _ _).mono ?_; rintro e w' ⟨rfl, rfl⟩)
  refine wp_loop_rounds 2 ?_
  repeat any_goals (rw [rounds_succ]; go_wp2)
  go_ret2
  exact ⟨rfl, (Below.refl _ _).alloc (Nat.le_refl _) _⟩

set_option maxRecDepth 100000 in
set_option maxHeartbeats 1000000 in
theorem put2 (n : Nat) (w : World) (hn : n < 65536) :
    Calls Try.prog 57 #[.int .i64 2, .int .i64 n] w fun r w' => r = .returned (.tuple #[.string ⟨(beBytes 2 n).toArray⟩, .int .i64 0]) ∧ Below w.heap.size w w' := by
  have h : szB 2 = true := rfl
  have hb : (((n : Int) / 65536) != 0) = false := by simp; omega
  have hn0 : ¬ (n : Int) < 0 := by omega
  have hmk : ∀ w, (Instr.makeSlice 72 (.int .i64 2) (.int .i64 2)).run Try.prog w = .ok (.slice (some ⟨w.heap.size, 0, none⟩) 2 2) (w.alloc (.cells #[.int .u8 0, .int .u8 0] 5)) := fun _ => by kernel_rfl
  have hcv := conv_new (beBytes 2 n) #[.int .u8 ((n : Int) / 256), .int .u8 ((n : Int) % 256)] w 2 2 (by simp [beBytes]; omega) (beBytes_length _ _).symm
  go_enter Try.func57, Try.ntmps57
  go_wp2_with (go_at_call 66; refine (isSize_any _ _).mono ?_; rintro e w' ⟨rfl, rfl⟩)
  refine wp_loop_rounds 3 ?_
  repeat any_goals (rw [rounds_succ]; go_wp2)
  go_ret2
  exact ⟨rfl, (Below.refl _ _).alloc (Nat.le_refl _) _⟩

set_option maxRecDepth 100000 in
set_option maxHeartbeats 1000000 in
theorem put4 (n : Nat) (w : World) (hn : n < 4294967296) :
    Calls Try.prog 57 #[.int .i64 4, .int .i64 n] w fun r w' => r = .returned (.tuple #[.string ⟨(beBytes 4 n).toArray⟩, .int .i64 0]) ∧ Below w.heap.size w w' := by
  have h : szB 4 = true := rfl
  have hb : (((n : Int) / 4294967296) != 0) = false := by simp; omega
  have hn0 : ¬ (n : Int) < 0 := by omega
  have hmk : ∀ w, (Instr.makeSlice 72 (.int .i64 4) (.int .i64 4)).run Try.prog w = .ok (.slice (some ⟨w.heap.size, 0, none⟩) 4 4) (w.alloc (.cells #[.int .u8 0, .int .u8 0, .int .u8 0, .int .u8 0] 5)) := fun _ => by kernel_rfl
  have hcv := conv_new (beBytes 4 n) #[.int .u8 ((n : Int) / 16777216), .int .u8 ((n : Int) / 65536 % 256), .int .u8 ((n : Int) / 256 % 256), .int .u8 ((n : Int) % 256)] w 4 4 (by simp [beBytes]; omega) (beBytes_length _ _).symm
  go_enter Try.func57, Try.ntmps57
  go_wp2_with (go_at_call 66; refine (isSize_any _ _).mono ?_; rintro e w' ⟨rfl, rfl⟩)
  refine wp_loop_rounds 5 ?_
  repeat any_goals (rw [rounds_succ]; go_wp2)
  go_ret2
  exact ⟨rfl, (Below.refl _ _).alloc (Nat.le_refl _) _⟩

theorem put_no {size n : Int} {r : Ending} {w w' : World} (hp : putB size n = false) (h : r = .returned (.tuple #[.string ⟨#[]⟩, .int .i64 1]) ∧ w = w') :
    r = .returned (.tuple #[.string ⟨(putS size n).toArray⟩, .int .i64 (putE size n)]) ∧ Below w.heap.size w w' := by
  obtain ⟨rfl, rfl⟩ := h
  simp [putS, putE, hp, Below.refl]
theorem put_yes {size n : Int} {r : Ending} {w w' : World} (k m : Nat) (hk : size = k) (hm : n = m) (hp : putB size n = true) (h : r = .returned (.tuple #[.string ⟨(beBytes k m).toArray⟩, .int .i64 0]) ∧ Below w.heap.size w w') :
    r = .returned (.tuple #[.string ⟨(putS size n).toArray⟩, .int .i64 (putE size n)]) ∧ Below w.heap.size w w' := by
  obtain ⟨rfl, hb⟩ := h
  subst hk hm
  simp [putS, putE, hp, hb]

theorem put_any (size n : Int) (w : World) :
    Calls Try.prog 57 #[.int .i64 size, .int .i64 n] w fun r w' => r = .returned (.tuple #[.string ⟨(putS size n).toArray⟩, .int .i64 (putE size n)]) ∧ Below w.heap.size w w' := by
  cases hz : szB size
  · exact (put_size size n w hz).mono fun r w' h => put_no (by simp [putB, hz]) h
  · by_cases hn : n < 0
    · exact (put_neg size n w hz hn).mono fun r w' h => put_no (by simp [putB]; intro _ _; omega) h
    · obtain ⟨m, rfl⟩ := Int.eq_ofNat_of_zero_le (Int.not_lt.1 hn)
      have hs : size = 1 ∨ size = 2 ∨ size = 4 := by simpa [szB] using hz
      rcases hs with rfl | rfl | rfl
      · by_cases hb : m < 256
        · exact (put1 m w hb).mono fun r w' h => put_yes 1 m rfl rfl (by simp [putB, hz]; omega) h
        · exact (put_big1 m w hn (by rw [bne_iff_ne]; omega)).mono fun r w' h => put_no (by simp [putB]; omega) h
      · by_cases hb : m < 65536
        · exact (put2 m w hb).mono fun r w' h => put_yes 2 m rfl rfl (by simp [putB, hz]; omega) h
        · exact (put_big2 m w hn (by rw [bne_iff_ne]; omega)).mono fun r w' h => put_no (by simp [putB]; omega) h
      · by_cases hb : m < 4294967296
        · exact (put4 m w hb).mono fun r w' h => put_yes 4 m rfl rfl (by simp [putB, hz]; omega) h
        · exact (put_big4 m w hn (by rw [bne_iff_ne]; omega)).mono fun r w' h => put_no (by simp [putB]; omega) h

end Go.Proofs.Ytmamnlphhiaeoaa

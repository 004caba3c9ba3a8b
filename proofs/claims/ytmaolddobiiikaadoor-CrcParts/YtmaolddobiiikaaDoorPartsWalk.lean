/-
  The walk of the law CrcParts: the check hangs on the bytes alone, not on how they are parted.
-/
import Derived.Test.YtmaolddobiiikaaDoorSum
import Derived.Deep.RegionHeld3
namespace Go.Proofs.YtmaolddobiiikaaDoor
open Go.RowKit
namespace crcParts

/-- Sum of one, two, three parts that lie anywhere. -/
theorem at1 (x : ByteArray) (B : Nat) (W : World) (h : Tab W) (hx : x.size ≤ maxLen) (h0 : W.cell? ⟨B, 0, none⟩ = some (.string x)) (hB : B < W.heap.size) :
    Calls Tryd.prog 9 #[.slice (some ⟨B, 0, none⟩) 1 1] W fun r w' => r = .returned (.int .i64 ((sumN x.data.toList : Nat) : Int)) ∧ W = w' := by
  have := sum_any (some ⟨B, 0, none⟩) 1 1 [x] W h ⟨rfl, Nat.le_refl _, by decide, fun k hk => ?_, fun k hk => ⟨B, 0, rfl, hB, ?_⟩⟩
  · rw [show cat [x] = x.data.toList by simp [cat]] at this
    exact this
  · match k, hk with
    | 0, _ => exact hx
  · match k, hk with
    | 0, _ => exact h0

theorem at2 (x y : ByteArray) (B : Nat) (W : World) (h : Tab W) (hx : x.size ≤ maxLen) (hy : y.size ≤ maxLen) (h0 : W.cell? ⟨B, 0, none⟩ = some (.string x)) (h1 : W.cell? ⟨B, 1, none⟩ = some (.string y)) (hB : B < W.heap.size) :
    Calls Tryd.prog 9 #[.slice (some ⟨B, 0, none⟩) 2 2] W fun r w' => r = .returned (.int .i64 ((sumN (x.data.toList ++ y.data.toList) : Nat) : Int)) ∧ W = w' := by
  have := sum_any (some ⟨B, 0, none⟩) 2 2 [x, y] W h ⟨rfl, Nat.le_refl _, by decide, fun k hk => ?_, fun k hk => ⟨B, 0, rfl, hB, ?_⟩⟩
  · rw [show cat [x, y] = x.data.toList ++ y.data.toList by simp [cat]] at this
    exact this
  · match k, hk with
    | 0, _ => exact hx
    | 1, _ => exact hy
  · match k, hk with
    | 0, _ => exact h0
    | 1, _ => exact h1

theorem at3 (x y z : ByteArray) (B : Nat) (W : World) (h : Tab W) (hx : x.size ≤ maxLen) (hy : y.size ≤ maxLen) (hz : z.size ≤ maxLen) (h0 : W.cell? ⟨B, 0, none⟩ = some (.string x)) (h1 : W.cell? ⟨B, 1, none⟩ = some (.string y)) (h2 : W.cell? ⟨B, 2, none⟩ = some (.string z)) (hB : B < W.heap.size) :
    Calls Tryd.prog 9 #[.slice (some ⟨B, 0, none⟩) 3 3] W fun r w' => r = .returned (.int .i64 ((sumN (x.data.toList ++ (y.data.toList ++ z.data.toList)) : Nat) : Int)) ∧ W = w' := by
  have := sum_any (some ⟨B, 0, none⟩) 3 3 [x, y, z] W h ⟨rfl, Nat.le_refl _, by decide, fun k hk => ?_, fun k hk => ⟨B, 0, rfl, hB, ?_⟩⟩
  · rw [show cat [x, y, z] = x.data.toList ++ (y.data.toList ++ z.data.toList) by simp [cat]] at this
    exact this
  · match k, hk with
    | 0, _ => exact hx
    | 1, _ => exact hy
    | 2, _ => exact hz
  · match k, hk with
    | 0, _ => exact h0
    | 1, _ => exact h1
    | 2, _ => exact h2

/-- Whatever of the law's four calls it is: the sum is that of the whole text. -/
theorem any (s x y : ByteArray) (e : x.data.toList ++ y.data.toList = s.data.toList) (hs : s.size ≤ maxLen) (hx : x.size ≤ maxLen) (hy : y.size ≤ maxLen) (B n : Nat) (W : World) (h : Tab W) (hB : B < W.heap.size)
    (hc : (n = 1 ∧ W.cell? ⟨B, 0, none⟩ = some (.string s)) ∨ (n = 2 ∧ W.cell? ⟨B, 0, none⟩ = some (.string x) ∧ W.cell? ⟨B, 1, none⟩ = some (.string y)) ∨
      (n = 3 ∧ W.cell? ⟨B, 0, none⟩ = some (.string ⟨#[]⟩) ∧ W.cell? ⟨B, 1, none⟩ = some (.string s) ∧ W.cell? ⟨B, 2, none⟩ = some (.string ⟨#[]⟩))) :
    Calls Tryd.prog 9 #[.slice (some ⟨B, 0, none⟩) n n] W fun r w' => r = .returned (.int .i64 ((sumN s.data.toList : Nat) : Int)) ∧ W = w' := by
  rcases hc with ⟨rfl, h0⟩ | ⟨rfl, h0, h1⟩ | ⟨rfl, h0, h1, h2⟩
  · exact at1 s B W h hs h0 hB
  · have := at2 x y B W h hx hy h0 h1 hB
    rw [e] at this
    exact this
  · have := at3 ⟨#[]⟩ s ⟨#[]⟩ B W h (by decide) hs (by decide) h0 h1 h2 hB
    simp only [List.append_nil, List.nil_append] at this
    exact this

theorem cut (s : ByteArray) (k : Nat) : (s.extract 0 k).data.toList ++ (s.extract k s.size).data.toList = s.data.toList := by
  rw [ByteArray.data_extract, ByteArray.data_extract, Array.toList_extract, Array.toList_extract]
  simp only [List.extract_eq_take_drop, List.drop_zero, Nat.sub_zero]
  rw [List.take_of_length_le (l := s.data.toList.drop k) (by simp), List.take_append_drop]

theorem size_cut (s : ByteArray) (a b : Nat) (hl : ¬ 2048 < (s.size : Int)) : (s.extract a b).size ≤ maxLen := by
  unfold maxLen
  rw [ByteArray.size_extract]
  omega

theorem walk_long (s : ByteArray) (c : Int) (w : World) (h : Tab w) (_hs : s.size ≤ maxLen) (hl : 2048 < (s.size : Int)) :
    Calls Tryd.prog 4 #[.string s, .int .i64 c] w fun e w' => e = .returned (.bool true) ∧ Below w.heap.size w w' := by
  unfold maxLen at _hs
  have T : Hid (Tab w) := h
  clear h
  go_enter Tryd.func4, Tryd.ntmps4
  go_wp2_with fail
  refine (works_any w T.out).mono ?_
  rintro e w1 ⟨rfl, hb1⟩
  go_wp2
  go_ret
  exact ⟨rfl, hb1⟩

set_option maxRecDepth 100000 in
set_option maxHeartbeats 8000000 in
theorem walk_mid (s : ByteArray) (k : Nat) (w : World) (h : Tab w) (hl : ¬ 2048 < (s.size : Int)) (hk : k ≤ s.size) :
    Calls Tryd.prog 4 #[.string s, .int .i64 k] w fun e w' => e = .returned (.bool true) ∧ Below w.heap.size w w' := by
  have T : Hid (Tab w) := h
  clear h
  have C : Hid (∀ (B n : Nat) (W : World), _) := any s (s.extract 0 k) (s.extract k s.size) (cut s k) (by unfold maxLen; omega) (size_cut s _ _ hl) (size_cut s _ _ hl)
  generalize sumN s.data.toList = y at *
  go_enter Tryd.func4, Tryd.ntmps4
  go_wp2_with fail
  refine (works_any w T.out).mono ?_
  rintro e w1 ⟨rfl, hb1⟩
  have T1 : Hid (Tab w1) := T.out.below hb1
  go_wp2_with fail
  go_region_held3 (fun w' => Below w1.heap.size w1 w') (first | assumption | exact (Below.refl _ _).drew | exact Below.alloc (by assumption) (Below.size (by assumption)) _) ((go_at_call 9; refine Calls.mono (C.out _ _ _ (T1.out.below (by assumption)) ?hB ?hc) ?_; (case hB => first | (simp; done) | (simp; omega)); (case hc => go_simp); rintro e w' ⟨rfl, rfl⟩))
  all_goals (go_wp2; go_ret; exact ⟨rfl, hb1.trans (Below.mono (by assumption) hb1.size)⟩)

set_option maxRecDepth 100000 in
set_option maxHeartbeats 8000000 in
theorem walk_low (s : ByteArray) (c : Int) (w : World) (h : Tab w) (hl : ¬ 2048 < (s.size : Int)) (hc : c < 0) :
    Calls Tryd.prog 4 #[.string s, .int .i64 c] w fun e w' => e = .returned (.bool true) ∧ Below w.heap.size w w' := by
  have T : Hid (Tab w) := h
  clear h
  have C : Hid (∀ (B n : Nat) (W : World), _) := any s (s.extract 0 0) (s.extract 0 s.size) (cut s 0) (by unfold maxLen; omega) (size_cut s _ _ hl) (size_cut s _ _ hl)
  generalize sumN s.data.toList = y at *
  go_enter Tryd.func4, Tryd.ntmps4
  go_wp2_with fail
  refine (works_any w T.out).mono ?_
  rintro e w1 ⟨rfl, hb1⟩
  have T1 : Hid (Tab w1) := T.out.below hb1
  go_wp2_with fail
  go_region_held3 (fun w' => Below w1.heap.size w1 w') (first | assumption | exact (Below.refl _ _).drew | exact Below.alloc (by assumption) (Below.size (by assumption)) _) ((go_at_call 9; refine Calls.mono (C.out _ _ _ (T1.out.below (by assumption)) ?hB ?hc) ?_; (case hB => first | (simp; done) | (simp; omega)); (case hc => go_simp); rintro e w' ⟨rfl, rfl⟩))
  all_goals (go_wp2; go_ret; exact ⟨rfl, hb1.trans (Below.mono (by assumption) hb1.size)⟩)

set_option maxRecDepth 100000 in
set_option maxHeartbeats 8000000 in
theorem walk_high (s : ByteArray) (c : Int) (w : World) (h : Tab w) (hl : ¬ 2048 < (s.size : Int)) (hc : (s.size : Int) < c) :
    Calls Tryd.prog 4 #[.string s, .int .i64 c] w fun e w' => e = .returned (.bool true) ∧ Below w.heap.size w w' := by
  have T : Hid (Tab w) := h
  clear h
  have C : Hid (∀ (B n : Nat) (W : World), _) := any s (s.extract 0 s.size) (s.extract s.size s.size) (cut s s.size) (by unfold maxLen; omega) (size_cut s _ _ hl) (size_cut s _ _ hl)
  generalize sumN s.data.toList = y at *
  go_enter Tryd.func4, Tryd.ntmps4
  go_wp2_with fail
  refine (works_any w T.out).mono ?_
  rintro e w1 ⟨rfl, hb1⟩
  have T1 : Hid (Tab w1) := T.out.below hb1
  go_wp2_with fail
  go_region_held3 (fun w' => Below w1.heap.size w1 w') (first | assumption | exact (Below.refl _ _).drew | exact Below.alloc (by assumption) (Below.size (by assumption)) _) ((go_at_call 9; refine Calls.mono (C.out _ _ _ (T1.out.below (by assumption)) ?hB ?hc) ?_; (case hB => first | (simp; done) | (simp; omega)); (case hc => go_simp); rintro e w' ⟨rfl, rfl⟩))
  all_goals (go_wp2; go_ret; exact ⟨rfl, hb1.trans (Below.mono (by assumption) hb1.size)⟩)

theorem walk (s : ByteArray) (c : Int) (w : World) (h : Tab w) (hs : s.size ≤ maxLen) :
    Calls Tryd.prog 4 #[.string s, .int .i64 c] w fun e w' => e = .returned (.bool true) ∧ Below w.heap.size w w' := by
  by_cases hl : 2048 < (s.size : Int)
  · exact walk_long s c w h hs hl
  by_cases h0 : c < 0
  · exact walk_low s c w h hl h0
  by_cases h1 : (s.size : Int) < c
  · exact walk_high s c w h hl h1
  obtain ⟨k, rfl⟩ := Int.eq_ofNat_of_zero_le (Int.not_lt.1 h0)
  exact walk_mid s k w h hl (by omega)
end crcParts
end Go.Proofs.YtmaolddobiiikaaDoor

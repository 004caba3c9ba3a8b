/-
  The walk of the law CrcFolds: one byte more is one step more; no bytes are none.
-/
import Derived.Test.YtmaolddobiiikaaDoorSum
namespace Go.Proofs.YtmaolddobiiikaaDoor
open Go.RowKit
namespace crcFolds

theorem walk_long (s : ByteArray) (b : Nat) (w : World) (h : Tab w) (_hs : s.size ≤ maxLen) (hl : 2048 < (s.size : Int)) :
    Calls Tryd.prog 7 #[.string s, .int .u8 b] w fun e w' => e = .returned (.bool true) ∧ Below w.heap.size w w' := by
  unfold maxLen at _hs
  have T : Hid (Tab w) := h
  clear h
  go_enter Tryd.func7, Tryd.ntmps7
  go_wp2_with fail
  refine (works_any w T.out).mono ?_
  rintro e w1 ⟨rfl, hb1⟩
  go_wp2
  go_ret
  exact ⟨rfl, hb1⟩

theorem conv_new (l : List UInt8) (cs : Array Value) (w : World) (m c : Nat) (hcs : cs = (l.map fun b => Value.int .u8 (b.toNat : Int)).toArray) (hm : m = l.length) :
    Sem.run Tryd.prog (convert 29 9 (.slice (some ⟨w.heap.size, 0, none⟩) m c)) (w.alloc (.cells cs 5)) = .ok (.string ⟨l.toArray⟩) (w.alloc (.cells cs 5)) := by
  subst hm
  refine run_convert_bytes_back _ 29 9 5 _ c l Tryd.underlying29 Tryd.underlying5 Tryd.underlying9 (fun j hj => ?_)
  have e : (⟨w.heap.size, 0, none⟩ : Addr).add j = ⟨w.heap.size, j, none⟩ := by simp [Addr.add]; intro h; omega
  rw [e, World.cell?_alloc_at cs 5 _ j rfl, hcs]
  simp [List.getElem?_eq_getElem hj]

set_option maxHeartbeats 1000000 in
theorem walk_short (s : ByteArray) (b : Nat) (w : World) (h : Tab w) (hb : b < 256) (hl : ¬ 2048 < (s.size : Int)) :
    Calls Tryd.prog 7 #[.string s, .int .u8 b] w fun e w' => e = .returned (.bool true) ∧ Below w.heap.size w w' := by
  have T : Hid (Tab w) := h
  clear h
  have hs : Hid (s.size ≤ maxLen) := by unfold maxLen; show s.size ≤ _; omega
  have eb : (UInt8.ofNat b).toNat = b := by simp; omega
  have S1 : ∀ w, Tab w → Hid (Calls _ _ _ _ _) := fun w h => sum1 s w h hs.out
  have S2 : ∀ w, Tab w → Hid (Calls _ _ _ _ _) := fun w h => sum2 s ⟨#[UInt8.ofNat b]⟩ w h hs.out (show 1 ≤ maxLen by decide)
  have S4 : ∀ w, Tab w → Hid (Calls _ _ _ _ _) := fun w h => sum2 s ⟨#[]⟩ w h hs.out (show 0 ≤ maxLen by decide)
  have hc := sumN_lt s.data.toList
  have e0 : bits .xor .i64 ((sumN s.data.toList : Nat) : Int) 4294967295 = ((sumN s.data.toList ^^^ 4294967295 : Nat) : Int) := i64_xor32 _ 4294967295 hc (by decide)
  have hc1 : sumN s.data.toList ^^^ 4294967295 < 4294967296 := xor_lt32 hc (by decide)
  have S3 : ∀ w, Tab w → Hid (Calls _ _ _ _ _) := fun w h => Step_any ((sumN s.data.toList ^^^ 4294967295 : Nat) : Int) b hb w h
  rw [show ((((sumN s.data.toList ^^^ 4294967295 : Nat) : Int) % 4294967296).toNat) = sumN s.data.toList ^^^ 4294967295 by omega] at S3
  have hc2 := stepN_lt hc1 hb
  have e2 : bits .xor .i64 ((stepN (sumN s.data.toList ^^^ 4294967295) b : Nat) : Int) 4294967295 = ((stepN (sumN s.data.toList ^^^ 4294967295) b ^^^ 4294967295 : Nat) : Int) := i64_xor32 _ 4294967295 hc2 (by decide)
  have e3 := sumN_one s.data.toList (UInt8.ofNat b)
  rw [eb] at e3
  rw [show (⟨#[UInt8.ofNat b]⟩ : ByteArray).data.toList = [UInt8.ofNat b] from rfl, e3] at S2
  rw [show (⟨#[]⟩ : ByteArray).data.toList = [] from rfl, List.append_nil] at S4
  clear e3
  generalize stepN (sumN s.data.toList ^^^ 4294967295) b = z at *
  generalize sumN s.data.toList ^^^ 4294967295 = y at *
  generalize sumN s.data.toList = x at *
  have hxi : (x : Int) ≤ 4294967295 := by omega
  generalize z ^^^ 4294967295 = v at *
  have hcv : ∀ w : World, _ := fun w => conv_new [UInt8.ofNat b] #[.int .u8 (b : Int)] w 1 1 (by simp; omega) rfl
  clear hc hc1 hc2 eb
  go_enter Tryd.func7, Tryd.ntmps7
  go_wp2_with fail
  refine (works_any w T.out).mono ?_
  rintro e w1 ⟨rfl, hb1⟩
  have T1 : Hid (Tab w1) := T.out.below hb1
  go_wp2_with fail
  refine Calls.mono (S1 w1 T1.out).out ?_
  rintro e w2 ⟨rfl, hw2⟩
  have B2 : Below w1.heap.size w1 w2 := by subst hw2; exact (Below.refl _ _).alloc (Nat.le_refl _) _
  clear hw2
  have T2 : Hid (Tab w2) := T1.out.below B2
  have hcv2 := hcv w2
  go_wp2_with fail
  have B3 : Below w2.heap.size w2 (w2.alloc (.cells #[.int .u8 (b : Int)] 5)) := (Below.refl _ _).alloc (Nat.le_refl _) _
  have T3 : Hid (Tab (w2.alloc (.cells #[.int .u8 (b : Int)] 5))) := T2.out.below B3
  have S5 := S2 (w2.alloc (.cells #[.int .u8 (b : Int)] 5)) T3.out
  rw [show (w2.alloc (.cells #[.int .u8 (b : Int)] 5)).heap.size = w2.heap.size + 1 by simp] at S5
  refine Calls.mono S5.out ?_
  rintro e w4 ⟨rfl, hw4⟩
  have B4 : Below (w2.alloc (.cells #[.int .u8 (b : Int)] 5)).heap.size (w2.alloc (.cells #[.int .u8 (b : Int)] 5)) w4 := by subst hw4; exact (Below.refl _ _).alloc (Nat.le_refl _) _
  clear hw4 hcv2 S5
  have T4 : Hid (Tab w4) := T3.out.below B4
  have F4 : Hid (Below w.heap.size w w4) := ((hb1.trans (B2.mono hb1.size)).trans (B3.mono (Nat.le_trans hb1.size B2.size))).trans (B4.mono (Nat.le_trans hb1.size (Nat.le_trans B2.size B3.size)))
  clear hb1 B2 B3 B4
  go_wp2_with fail
  refine Calls.mono (S3 w4 T4.out).out ?_
  rintro e w' ⟨rfl, rfl⟩
  go_wp2_with fail
  refine Calls.mono (S4 w4 T4.out).out ?_
  rintro e w5 ⟨rfl, hw5⟩
  have B5 : Below w4.heap.size w4 w5 := by subst hw5; exact (Below.refl _ _).alloc (Nat.le_refl _) _
  clear hw5
  go_wp2
  go_ret
  exact ⟨rfl, F4.out.trans (B5.mono F4.out.size)⟩

theorem walkN (s : ByteArray) (b : Nat) (w : World) (h : Tab w) (hs : s.size ≤ maxLen) (hb : b < 256) :
    Calls Tryd.prog 7 #[.string s, .int .u8 b] w fun e w' => e = .returned (.bool true) ∧ Below w.heap.size w w' := by
  by_cases hl : 2048 < (s.size : Int)
  · exact walk_long s b w h hs hl
  · exact walk_short s b w h hb hl

theorem walk (s : ByteArray) (b : Int) (w : World) (h : Tab w) (hs : s.size ≤ maxLen) (hb : 0 ≤ b ∧ b ≤ 255) :
    Calls Tryd.prog 7 #[.string s, .int .u8 b] w fun e w' => e = .returned (.bool true) ∧ Below w.heap.size w w' := by
  obtain ⟨n, rfl⟩ := Int.eq_ofNat_of_zero_le hb.1
  exact walkN s n w h hs (by omega)
end crcFolds
end Go.Proofs.YtmaolddobiiikaaDoor

/-
  Plain laws of the document's disk.
-/
import Derived.Test.YtalljfckjkbieaaDoorDk
namespace Go.Proofs.YtalljfckjkbieaaDoor
open Go.RowKit
set_option linter.unusedVariables false

theorem Dk.has_nat {d : Dk} {n : Nat} (h : n < d.sure.length) : d.has n = true := by unfold Dk.has; simp; omega
theorem Dk.put_ok {d : Dk} {i : Int} {s : ByteArray} (hd : d.down = false) (hi : d.has i = true) (hs : s.size = 256) : d.put i s = { d with pend := d.pend ++ [(i.toNat, s)], writes := wrap64 (d.writes + 1) : Dk }.tick := by
  unfold Dk.put; rw [if_neg (by simp [hd]), if_pos hi, if_pos hs]
theorem Dk.put_range {d : Dk} {i : Int} {s : ByteArray} (hd : d.down = false) (hi : d.has i = false) : d.put i s = (40, d) := by
  unfold Dk.put; rw [if_neg (by simp [hd]), if_neg (by simp [hi])]
theorem Dk.put_arg {d : Dk} {i : Int} {s : ByteArray} (hd : d.down = false) (hi : d.has i = true) (hs : s.size ≠ 256) : d.put i s = (1, d) := by
  unfold Dk.put; rw [if_neg (by simp [hd]), if_pos hi, if_neg hs]
theorem Dk.put_down {d : Dk} {i : Int} {s : ByteArray} (hd : d.down = true) : d.put i s = (4, d) := by unfold Dk.put; rw [if_pos hd]
theorem Dk.get_down {d : Dk} {i : Int} (hd : d.down = true) : d.get i = ((ByteArray.empty, 4), d) := by unfold Dk.get; rw [if_pos hd]
theorem Dk.get_ok {d : Dk} {i : Int} (hd : d.down = false) (hi : d.has i = true) : d.get i = ((d.now i.toNat, 0), { d with reads := wrap64 (d.reads + 1) }) := by
  unfold Dk.get; rw [if_neg (by simp [hd]), if_pos hi]
theorem Dk.sync_down {d : Dk} (hd : d.down = true) : d.sync = (4, d) := by unfold Dk.sync; rw [if_pos hd]
theorem Dk.sync_ok {d : Dk} (hd : d.down = false) : d.sync = (0, { d with sure := syncTo d.pend d.sure d.pend.length, pend := [] }) := by unfold Dk.sync; rw [if_neg (by simp [hd])]

theorem sAt_set (l : List ByteArray) {i j : Nat} (hi : i < l.length) (s : ByteArray) : sAt (l.set i s) j = if i = j then s else sAt l j := by
  unfold sAt
  rw [List.getD_eq_getElem?_getD, List.getElem?_set]
  by_cases h : i = j
  · subst h; simp [hi]
  · simp [h, List.getD_eq_getElem?_getD]

/-- A crash that keeps none of the first n writes does nothing with them. -/
theorem crashTo_none (p : List Wr) (keep : List Int) (torn cut : Int) (s : List ByteArray) : ∀ n : Nat, (∀ k : Nat, k < n → keep.contains (k : Int) = false) → crashTo p keep torn cut s n = s
  | 0, _ => rfl
  | n + 1, h => by
    rw [crashTo_succ, crashTo_none p keep torn cut s n (fun k hk => h k (by omega))]
    unfold crashStep
    rw [if_neg (by rw [h n (Nat.lt_succ_self _)]; decide)]

/-- What no kept write is about is as it was. -/
theorem crashTo_other (p : List Wr) (keep : List Int) (torn cut : Int) (s : List ByteArray) (i : Nat) : ∀ n, (∀ k, k < n → (wAt p k).1 ≠ i) → sAt (crashTo p keep torn cut s n) i = sAt s i
  | 0, _ => rfl
  | n + 1, h => by
    rw [crashTo_succ]
    unfold crashStep
    have ih := crashTo_other p keep torn cut s i n (fun k hk => h k (by omega))
    split
    · have hne := h n (Nat.lt_succ_self _)
      rw [← ih]
      unfold sAt
      simp only [List.getD_eq_getElem?_getD, List.getElem?_set_ne hne]
    · exact ih

/-- With all kept, and none torn, each sector is as it read. -/
theorem crashTo_all {d : Dk} (h : d.Ok) (keep : List Int) (cut : Int) (i : Nat) : ∀ n : Nat, n ≤ d.pend.length → (∀ k : Nat, k < n → keep.contains (k : Int) = true) → sAt (crashTo d.pend keep (-1) cut d.sure n) i = nowTo d.sure d.pend i n
  | 0, _, _ => rfl
  | n + 1, hn, hk => by
    have ih := crashTo_all h keep cut i n (by omega) (fun k hk' => hk k (by omega))
    have hw := wAt_ok h (show n < d.pend.length by omega)
    have hs := crashTo_sizes h keep (-1) cut n (by omega)
    have hl := crashTo_length d.pend keep (-1) cut d.sure n
    rw [crashTo_succ, nowTo_succ, ← ih]
    unfold crashStep
    rw [if_pos (hk n (Nat.lt_succ_self _)), if_neg (by omega), tear_all hw.2 (sAt_size hs (by rw [hl]; exact hw.1)), sAt_set _ (by rw [hl]; exact hw.1)]
theorem syncTo_now {d : Dk} (h : d.Ok) (i : Nat) : ∀ n, n ≤ d.pend.length → sAt (syncTo d.pend d.sure n) i = nowTo d.sure d.pend i n
  | 0, _ => rfl
  | n + 1, hn => by
    have ih := syncTo_now h i n (by omega)
    have hw := wAt_ok h (show n < d.pend.length by omega)
    rw [syncTo_succ, nowTo_succ, ← ih, sAt_set _ (by rw [syncTo_length]; exact hw.1)]

end Go.Proofs.YtalljfckjkbieaaDoor

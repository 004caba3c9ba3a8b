/-
  The walks of the document's answer for layer 1 (its Reader and its Put).
-/
import Derived.Test.YtciibbboimaccaaBackLaws
import Derived.Deep.QuietTactic
import Derived.BigQuiet
import Derived.Lib.IndexBytes
namespace Go.Proofs.Ytciibbboimaccaa
open Go.RowKit

/-- Block b is the document's Reader: its text, where it is, its error. -/
structure Rq (b : Nat) (s : ByteArray) (i : Nat) (e : Int) (w : World) : Prop where
  blk : w.heap[b]? = some (.cells #[.string s, .int .i64 i, .int .i64 e] 38 (0, 0))
  sz : s.size ≤ maxLen
  le : i ≤ s.size

theorem Rq.lt {b i : Nat} {s : ByteArray} {e : Int} {w : World} (h : Rq b s i e w) : b < w.heap.size := by
  have := h.blk
  rw [Array.getElem?_eq_some_iff] at this
  exact this.1
theorem Rq.c0 {b i : Nat} {s : ByteArray} {e : Int} {w : World} (h : Rq b s i e w) : w.cell? ⟨b, 0, none⟩ = some (.string s) := by simp [World.cell?, h.blk]
theorem Rq.c1 {b i : Nat} {s : ByteArray} {e : Int} {w : World} (h : Rq b s i e w) : w.cell? ⟨b, 1, none⟩ = some (.int .i64 i) := by simp [World.cell?, h.blk]
theorem Rq.c2 {b i : Nat} {s : ByteArray} {e : Int} {w : World} (h : Rq b s i e w) : w.cell? ⟨b, 2, none⟩ = some (.int .i64 e) := by simp [World.cell?, h.blk]
theorem Rq.f1 {b i : Nat} {s : ByteArray} {e : Int} {w : World} (h : Rq b s i e w) : w.frozen? ⟨b, 1, none⟩ = false := by simp [World.frozen?, h.blk]
theorem Rq.f2 {b i : Nat} {s : ByteArray} {e : Int} {w : World} (h : Rq b s i e w) : w.frozen? ⟨b, 2, none⟩ = false := by simp [World.frozen?, h.blk]
theorem Rq.set1 {b i : Nat} {s : ByteArray} {e : Int} {w : World} (h : Rq b s i e w) (j : Nat) (hj : j ≤ s.size) (v : Int) (hv : v = j) : Rq b s j e (w.setCell ⟨b, 1, none⟩ (.int .i64 v)) := by
  subst hv
  exact ⟨by simp [World.setCell, Array.getElem?_modify, h.blk], h.sz, hj⟩
theorem Rq.set2 {b i : Nat} {s : ByteArray} {e : Int} {w : World} (h : Rq b s i e w) (n : Int) : Rq b s i n (w.setCell ⟨b, 2, none⟩ (.int .i64 n)) :=
  ⟨by simp [World.setCell, Array.getElem?_modify, h.blk], h.sz, h.le⟩
theorem Rq.keep {b c i : Nat} {s : ByteArray} {e : Int} {w w' : World} (h : Rq b s i e w) (k : Only c w w') (hb : b ≠ c) : Rq b s i e w' := ⟨(k.block b hb).trans h.blk, h.sz, h.le⟩
theorem Rq.drewN {b i : Nat} {s : ByteArray} {e : Int} {w : World} (h : Rq b s i e w) (n : Nat) : Rq b s i e (w.drewN n) := ⟨h.blk, h.sz, h.le⟩
theorem Rq.made (s : ByteArray) (hs : s.size ≤ maxLen) (w : World) : Rq w.heap.size s 0 0 (w.alloc (.cells #[.string s, .int .i64 0, .int .i64 0] 38)) :=
  ⟨by show (w.heap.push _)[w.heap.size]? = _; simp, hs, Nat.zero_le _⟩

/-- What the document's Bytes(n) answers, where it is then, and the error behind it. -/
def rqBytes (s : ByteArray) (i : Nat) (e n : Int) : ByteArray × Nat × Int :=
  if e ≠ 0 then (ByteArray.empty, i, e) else if n < 0 then (ByteArray.empty, i, 1) else if (s.size : Int) - i < n then (ByteArray.empty, i, 10) else (s.extract i (i + n.toNat), i + n.toNat, 0)

set_option maxHeartbeats 400000 in
theorem qbytes_any (b i : Nat) (s : ByteArray) (e n : Int) (w : World) (h : Rq b s i e w) :
    Calls Try.prog 20 #[.pointer (some ⟨b, 0, none⟩), .int .i64 n] w fun r w' => r = .returned (.string (rqBytes s i e n).1) ∧ Rq b s (rqBytes s i e n).2.1 (rqBytes s i e n).2.2 w' ∧ Only b w w' := by
  have c0 := h.c0; have c1 := h.c1; have c2 := h.c2; have f1 := h.f1; have f2 := h.f2; have lt := h.lt; have sz := h.sz; have le := h.le
  unfold maxLen at sz
  have H : Hid (Rq b s i e w) := h
  clear h
  by_cases he : e = 0
  · subst he
    by_cases hn : n < 0
    · have E : Hid (rqBytes s i 0 n = (ByteArray.empty, i, 1)) := by simp [Hid, rqBytes, hn]
      go_enter Try.func20, Try.ntmps20
      go_wp2
      go_ret
      rw [E.out]
      exact ⟨rfl, H.out.set2 _, Only.setCell _ _ _ _⟩
    · by_cases hl : (s.size : Int) - i < n
      · have E : Hid (rqBytes s i 0 n = (ByteArray.empty, i, 10)) := by simp [Hid, rqBytes, hn, hl]
        go_enter Try.func20, Try.ntmps20
        go_wp2
        go_quiet (fail)
        go_wp2
        go_ret
        rw [E.out]
        exact ⟨rfl, (H.out.drewN _).set2 _, ((Only.refl _ _).drewN _).trans (Only.setCell _ _ _ _)⟩
      · have E : Hid (rqBytes s i 0 n = (s.extract i (i + n.toNat), i + n.toNat, 0)) := by simp [Hid, rqBytes, hn, hl]
        obtain ⟨k, rfl⟩ := Int.eq_ofNat_of_zero_le (Int.not_lt.1 hn)
        have hk : i + k ≤ s.size := by omega
        go_enter Try.func20, Try.ntmps20
        go_wp2
        go_quiet (fail)
        go_wp2
        go_quiet (fail)
        go_wp2
        go_ret
        rw [E.out]
        exact ⟨rfl, ((H.out.drewN _).set1 (i + k) hk _ (by omega)).drewN _, (((Only.refl _ _).drewN _).trans (Only.setCell _ _ _ _)).drewN _⟩
  · have E : Hid (rqBytes s i e n = (ByteArray.empty, i, e)) := by simp [Hid, rqBytes, he]
    have e1 : (e != 0) = true := by rw [bne_iff_ne]; exact he
    clear he
    go_enter Try.func20, Try.ntmps20
    go_wp2
    go_ret
    rw [E.out]
    exact ⟨rfl, H.out, Only.refl _ _⟩

set_option maxHeartbeats 400000 in
theorem refInt_any (x : ByteArray) (w : World) (h4 : x.size ≤ 4) :
    Calls Try.prog 27 #[.string x] w fun r w' => r = .returned (.int .i64 (beNat x.data.toList)) ∧ w = w' := by
  go_enter Try.func27, Try.ntmps27
  go_wp2
  go_loop [3, 4] (fun v i => ∃ k : Nat, k ≤ x.size ∧ i = .int .i64 k ∧ v = .int .i64 (beNat (x.data.toList.take k))) (fun _ i => x.size - (intOf i).toNat)
  case atStart => exact ⟨0, Nat.zero_le _, rfl, rfl⟩
  case round =>
    obtain ⟨k, hk, rfl, rfl⟩ := hrel
    by_cases hlt : k < x.size
    · have T : Hid (beNat (x.data.toList.take (k + 1)) = beNat (x.data.toList.take k) * 256 + x[k].toNat) := beNat_take x.data.toList k (by simpa using hlt)
      have B := beNat_take_lt x.data.toList k (by omega)
      have C8 : x[k].toNat < 256 := UInt8.toNat_lt _
      go_wp2
      refine ⟨⟨k + 1, by omega, by go_num, ?_⟩, by simp [intOf]; omega⟩
      rw [T.out]
      go_num
    · have T : Hid (x.data.toList.take k = x.data.toList) := List.take_of_length_le (by simp; omega)
      go_wp2
      go_ret
      exact ⟨ret_int (by rw [T.out]), rfl⟩

/-- What the document's Int(size) answers, where it is then, and the error behind it. -/
def rqInt (s : ByteArray) (i : Nat) (e n : Int) : Int × Nat × Int :=
  if szB n = false then (0, i, if e ≠ 0 then e else 1) else ((beNat (rqBytes s i e n).1.data.toList : Int), (rqBytes s i e n).2.1, (rqBytes s i e n).2.2)

theorem rqBytes_stop (s : ByteArray) (i : Nat) (e n : Int) (he : e ≠ 0) : rqBytes s i e n = (ByteArray.empty, i, e) := by simp [rqBytes, he]
theorem rqBytes_le4 (s : ByteArray) (i : Nat) (e n : Int) (h : szB n = true) : (rqBytes s i e n).1.size ≤ 4 := by
  have : n = 1 ∨ n = 2 ∨ n = 4 := by simpa [szB] using h
  unfold rqBytes
  split
  · simp
  · split
    · simp
    · split
      · simp
      · simp; omega

set_option maxHeartbeats 400000 in
theorem qint_any (b i : Nat) (s : ByteArray) (e n : Int) (w : World) (h : Rq b s i e w) :
    Calls Try.prog 16 #[.pointer (some ⟨b, 0, none⟩), .int .i64 n] w fun r w' => r = .returned (.int .i64 (rqInt s i e n).1) ∧ Rq b s (rqInt s i e n).2.1 (rqInt s i e n).2.2 w' ∧ Only b w w' := by
  have c2 := h.c2; have f2 := h.f2; have lt := h.lt
  have H : Hid (Rq b s i e w) := h
  clear h
  cases hz : szB n
  · have h1 : (n != 1) = true := by rw [bne_iff_ne]; intro e; subst e; simp [szB] at hz
    have h2 : (n != 2) = true := by rw [bne_iff_ne]; intro e; subst e; simp [szB] at hz
    have h4 : (n != 4) = true := by rw [bne_iff_ne]; intro e; subst e; simp [szB] at hz
    by_cases he : e = 0
    · subst he
      have E : Hid (rqInt s i 0 n = (0, i, 1)) := by simp [Hid, rqInt, hz]
      clear hz
      have C : Hid _ := qbytes_any b i s 1 n _ (H.out.set2 1)
      rw [rqBytes_stop s i 1 n (by decide)] at C
      go_enter Try.func16, Try.ntmps16
      go_wp2_with fail
      refine Calls.mono C.out ?_
      rintro e w1 ⟨rfl, hr, ho⟩
      go_wp2_with fail
      refine (refInt_any ByteArray.empty _ (by simp)).mono ?_
      rintro e w2 ⟨rfl, rfl⟩
      go_wp2
      go_ret
      rw [E.out]
      exact ⟨rfl, hr, (Only.setCell _ _ _ _).trans ho⟩
    · have E : Hid (rqInt s i e n = (0, i, e)) := by simp [Hid, rqInt, hz, he]
      have e1 : (e == 0) = false := beq_eq_false_iff_ne.2 he
      clear hz
      have C : Hid _ := qbytes_any b i s e n _ H.out
      rw [rqBytes_stop s i e n he] at C
      clear he
      go_enter Try.func16, Try.ntmps16
      go_wp2_with fail
      refine Calls.mono C.out ?_
      rintro e w1 ⟨rfl, hr, ho⟩
      go_wp2_with fail
      refine (refInt_any ByteArray.empty _ (by simp)).mono ?_
      rintro e w2 ⟨rfl, rfl⟩
      go_wp2
      go_ret
      rw [E.out]
      exact ⟨rfl, hr, ho⟩
  · have E : Hid (rqInt s i e n = ((beNat (rqBytes s i e n).1.data.toList : Int), (rqBytes s i e n).2.1, (rqBytes s i e n).2.2)) := by simp [Hid, rqInt, hz]
    have g4 := rqBytes_le4 s i e n hz
    have C : Hid _ := qbytes_any b i s e n w H.out
    generalize rqBytes s i e n = t at *
    obtain ⟨x, i', e'⟩ := t
    have hs : n = 1 ∨ n = 2 ∨ n = 4 := by simpa [szB] using hz
    clear hz
    by_cases he : e = 0
    · subst he
      rcases hs with rfl | rfl | rfl
      all_goals
        go_enter Try.func16, Try.ntmps16
        go_wp2_with fail
        refine Calls.mono C.out ?_
        rintro e w1 ⟨rfl, hr, ho⟩
        go_wp2_with fail
        refine (refInt_any x _ g4).mono ?_
        rintro e w2 ⟨rfl, rfl⟩
        go_wp2
        go_ret
        rw [E.out]
        exact ⟨rfl, hr, ho⟩
    · have e1 : (e == 0) = false := beq_eq_false_iff_ne.2 he
      clear he hs
      go_enter Try.func16, Try.ntmps16
      go_wp2_with fail
      refine Calls.mono C.out ?_
      rintro e w1 ⟨rfl, hr, ho⟩
      go_wp2_with fail
      refine (refInt_any x _ g4).mono ?_
      rintro e w2 ⟨rfl, rfl⟩
      go_wp2
      go_ret
      rw [E.out]
      exact ⟨rfl, hr, ho⟩

/-- What the document's Text answers, where it is then, and the error behind it. -/
def rqText (s : ByteArray) (i : Nat) (e : Int) : ByteArray × Nat × Int := rqBytes s (rqInt s i e 1).2.1 (rqInt s i e 1).2.2 (rqInt s i e 1).1

set_option maxHeartbeats 400000 in
theorem qtext_any (b i : Nat) (s : ByteArray) (e : Int) (w : World) (h : Rq b s i e w) :
    Calls Try.prog 18 #[.pointer (some ⟨b, 0, none⟩)] w fun r w' => r = .returned (.string (rqText s i e).1) ∧ Rq b s (rqText s i e).2.1 (rqText s i e).2.2 w' ∧ Only b w w' := by
  have C : Hid _ := qint_any b i s e 1 w h
  clear h
  unfold rqText
  generalize rqInt s i e 1 = t at *
  obtain ⟨n, i1, e1⟩ := t
  go_enter Try.func18, Try.ntmps18
  go_wp2_with (go_at_call 16; refine Calls.mono C.out ?_; rintro e w1 ⟨rfl, hr, ho⟩)
  refine (qbytes_any b i1 s e1 n w1 hr).mono ?_
  rintro r w2 ⟨rfl, hr2, ho2⟩
  go_wp2
  go_ret
  exact ⟨rfl, hr2, ho.trans ho2⟩

/-! THE TWO READERS GO TOGETHER. -/
theorem sim_bytes (s : ByteArray) (i : Nat) (e n : Int) (hi : i ≤ s.size) :
    (rdBytes (s.extract i s.size) e n).1 = (rqBytes s i e n).1 ∧ (rdBytes (s.extract i s.size) e n).2.1 = s.extract (rqBytes s i e n).2.1 s.size ∧
    (rdBytes (s.extract i s.size) e n).2.2 = (rqBytes s i e n).2.2 ∧ (rqBytes s i e n).2.1 ≤ s.size := by
  have hz : (s.extract i s.size).size = s.size - i := by simp
  by_cases he : e = 0
  · subst he
    by_cases h1 : n < 0
    · simp [rdBytes, rqBytes, h1, hi]
    · by_cases h2 : (s.size : Int) - i < n
      · have h3 : ((s.extract i s.size).size : Int) < n := by omega
        unfold rdBytes rqBytes
        simp only [if_neg h1, if_pos h2, if_pos h3]
        simp [hi]
      · have h3 : ¬ ((s.extract i s.size).size : Int) < n := by omega
        obtain ⟨k, rfl⟩ := Int.eq_ofNat_of_zero_le (Int.not_lt.1 h1)
        have hk : i + k ≤ s.size := by omega
        unfold rdBytes rqBytes
        simp only [if_neg h1, if_neg h2, if_neg h3]
        rw [if_neg (by simp), if_neg (by simp), Int.toNat_natCast]
        refine ⟨?_, ?_, rfl, hk⟩
        · apply ba_ext
          simp only [Lib.extract_data]
          simp [List.take_take]
        · apply ba_ext
          rw [Lib.extract_to_end, Lib.extract_to_end, Lib.extract_to_end, List.drop_drop]
  · simp [rdBytes, rqBytes, he, hi]

theorem sim_int (s : ByteArray) (i : Nat) (e n : Int) (hi : i ≤ s.size) :
    (rdInt (s.extract i s.size) e n).1 = (rqInt s i e n).1 ∧ (rdInt (s.extract i s.size) e n).2.1 = s.extract (rqInt s i e n).2.1 s.size ∧
    (rdInt (s.extract i s.size) e n).2.2 = (rqInt s i e n).2.2 ∧ (rqInt s i e n).2.1 ≤ s.size := by
  cases hz : szB n
  · simp [rdInt, rqInt, hz, hi]
  · obtain ⟨h1, h2, h3, h4⟩ := sim_bytes s i e n hi
    simp [rdInt, rqInt, hz, h1, h2, h3, h4]

theorem sim_text (s : ByteArray) (i : Nat) (e : Int) (hi : i ≤ s.size) :
    (rdText (s.extract i s.size) e).1 = (rqText s i e).1 ∧ (rdText (s.extract i s.size) e).2.1 = s.extract (rqText s i e).2.1 s.size ∧
    (rdText (s.extract i s.size) e).2.2 = (rqText s i e).2.2 ∧ (rqText s i e).2.1 ≤ s.size := by
  obtain ⟨h1, h2, h3, h4⟩ := sim_int s i e 1 hi
  unfold rdText rqText
  rw [h1, h2, h3]
  exact sim_bytes s _ _ _ h4

end Go.Proofs.Ytciibbboimaccaa

/-
  Plain laws of bytes: what is written is read again; numbers are ordered as their bytes.
-/
import Derived.Test.YtmamnlphhiaeoaaCdJoin
namespace Go.Proofs.Ytmamnlphhiaeoaa
open Go.RowKit

theorem ba_eta (s : ByteArray) : s = ⟨s.data.toList.toArray⟩ := by cases s; simp
theorem ba_size (l : List UInt8) : (⟨l.toArray⟩ : ByteArray).size = l.length := by simp [ByteArray.size]
theorem ba_ext {s t : ByteArray} (h : s.data.toList = t.data.toList) : s = t := ByteArray.ext (Array.toList_inj.1 h)
theorem ba_head (l r : List UInt8) : (⟨(l ++ r).toArray⟩ : ByteArray).extract 0 l.length = ⟨l.toArray⟩ := by
  apply ba_ext; rw [Lib.extract_data]; simp
theorem ba_tail (l r : List UInt8) : (⟨(l ++ r).toArray⟩ : ByteArray).extract l.length (l.length + r.length) = ⟨r.toArray⟩ := by
  apply ba_ext; rw [Lib.extract_data]; simp

theorem rdBytes_app (l r : List UInt8) (n : Int) (h : n = l.length) : rdBytes ⟨(l ++ r).toArray⟩ 0 n = (⟨l.toArray⟩, ⟨r.toArray⟩, 0) := by
  subst h
  have h1 : ¬ (l.length : Int) < 0 := by omega
  have h2 : ¬ (((⟨(l ++ r).toArray⟩ : ByteArray).size : Int) < l.length) := by rw [ba_size, List.length_append]; omega
  have h3 : (⟨(l ++ r).toArray⟩ : ByteArray).size = l.length + r.length := by rw [ba_size, List.length_append]
  unfold rdBytes
  rw [if_neg (by simp), if_neg h1, if_neg h2, Int.toNat_natCast, h3, ba_head, ba_tail]

theorem rdInt_app (l r : List UInt8) (n : Int) (h : n = l.length) (hz : szB n = true) : rdInt ⟨(l ++ r).toArray⟩ 0 n = ((beNat l : Int), ⟨r.toArray⟩, 0) := by
  unfold rdInt
  rw [rdBytes_app l r n h]
  simp [hz]

/-- Bytes that were read without an error: they stood at the beginning. -/
theorem rdBytes_inv (s : ByteArray) (e n : Int) (h : (rdBytes s e n).2.2 = 0) :
    e = 0 ∧ ∃ l r : List UInt8, s = ⟨(l ++ r).toArray⟩ ∧ n = (l.length : Int) ∧ rdBytes s e n = (⟨l.toArray⟩, ⟨r.toArray⟩, 0) := by
  by_cases he : e = 0
  · refine ⟨he, ?_⟩
    subst he
    by_cases h1 : n < 0
    · simp [rdBytes, h1] at h
    · by_cases h2 : (s.size : Int) < n
      · simp [rdBytes, h1, h2] at h
      · obtain ⟨k, rfl⟩ := Int.eq_ofNat_of_zero_le (Int.not_lt.1 h1)
        have hk : k ≤ s.data.toList.length := by
          have := Lib.size_eq s
          omega
        have hl : (s.data.toList.take k).length = k := by simp at hk ⊢; omega
        have hs : s = ⟨(s.data.toList.take k ++ s.data.toList.drop k).toArray⟩ := by rw [List.take_append_drop]
        refine ⟨s.data.toList.take k, s.data.toList.drop k, hs, by rw [hl], ?_⟩
        have := rdBytes_app (s.data.toList.take k) (s.data.toList.drop k) (k : Int) (by rw [hl])
        rw [← hs] at this
        exact this
  · simp [rdBytes, he] at h

theorem rdInt_inv (s : ByteArray) (e n : Int) (h : (rdInt s e n).2.2 = 0) :
    e = 0 ∧ szB n = true ∧ ∃ l r : List UInt8, s = ⟨(l ++ r).toArray⟩ ∧ n = (l.length : Int) ∧ rdInt s e n = ((beNat l : Int), ⟨r.toArray⟩, 0) := by
  cases hz : szB n
  · exfalso
    by_cases he : e = 0 <;> simp [rdInt, hz, he] at h
  · have h' : (rdBytes s e n).2.2 = 0 := by simpa [rdInt, hz] using h
    obtain ⟨he, l, r, hs, hn, _⟩ := rdBytes_inv s e n h'
    subst he
    refine ⟨rfl, rfl, l, r, hs, hn, ?_⟩
    rw [hs]
    exact rdInt_app l r n hn hz

theorem beNat_foldl (x : List UInt8) : ∀ i : Nat, x.foldl (fun a c => a * 256 + c.toNat) i = i * 256 ^ x.length + beNat x := by
  induction x with
  | nil => intro i; simp [beNat]
  | cons a x ih =>
    intro i
    have e : beNat (a :: x) = a.toNat * 256 ^ x.length + beNat x := by rw [beNat, List.foldl_cons, ih]; simp
    rw [List.foldl_cons, ih, e, List.length_cons, Nat.pow_succ, Nat.add_mul, Nat.mul_assoc, Nat.mul_comm 256, Nat.add_assoc]
theorem beNat_cons (a : UInt8) (x : List UInt8) : beNat (a :: x) = a.toNat * 256 ^ x.length + beNat x := by
  rw [beNat, List.foldl_cons, beNat_foldl]; simp

theorem mul_lt_step (a b p x y : Nat) (h : a < b) (hx : x < p) : a * p + x < b * p + y := by
  have h1 : (a + 1) * p ≤ b * p := Nat.mul_le_mul_right p h
  rw [Nat.add_mul, Nat.one_mul] at h1
  omega

theorem bytesLess_nat (x : List UInt8) : ∀ y : List UInt8, x.length = y.length → Op.bytesLess x y = decide (beNat x < beNat y) := by
  induction x with
  | nil => intro y h; rw [List.length_eq_zero_iff.1 h.symm]; rfl
  | cons a x ih =>
    intro y h
    cases y with
    | nil => simp at h
    | cons b y =>
      have hl : x.length = y.length := by simpa using h
      have hx := beNat_lt x
      have hy := beNat_lt y
      rw [Op.bytesLess, ih y hl, beNat_cons, beNat_cons, hl]
      rw [hl] at hx
      rcases Nat.lt_trichotomy a.toNat b.toNat with c | c | c
      · have e1 : a < b := UInt8.lt_iff_toNat_lt.2 c
        have e2 := mul_lt_step a.toNat b.toNat _ (beNat x) (beNat y) c hx
        simp [e1, e2]
      · have e1 : a = b := UInt8.toNat_inj.1 c
        subst e1
        simp
      · have e1 : ¬ a < b := by rw [UInt8.lt_iff_toNat_lt]; omega
        have e2 : a ≠ b := by intro e; subst e; omega
        have e3 := mul_lt_step b.toNat a.toNat _ (beNat y) (beNat x) c hy
        have e4 : ¬ (a.toNat * 256 ^ y.length + beNat x < b.toNat * 256 ^ y.length + beNat y) := Nat.not_lt.2 (Nat.le_of_lt e3)
        rw [decide_eq_false e4]
        simp [e1, e2]

theorem less_put (k n m : Nat) (hn : n < 256 ^ k) (hm : m < 256 ^ k) : Op.bytesLess (beBytes k n) (beBytes k m) = decide (n < m) := by
  rw [bytesLess_nat _ _ (by rw [beBytes_length, beBytes_length]), beNat_bytes k n hn, beNat_bytes k m hm]
theorem eq_put (k n m : Nat) (hn : n < 256 ^ k) (hm : m < 256 ^ k) : (beBytes k n == beBytes k m) = decide (n = m) := by
  by_cases h : n = m
  · subst h; simp
  · simp [h]; intro e; apply h; rw [← beNat_bytes k n hn, ← beNat_bytes k m hm, e]

end Go.Proofs.Ytmamnlphhiaeoaa

/-
  The plain laws behind CodecBack: what is written is read again; what is read, written again, is just those bytes.
-/
import Derived.Test.YtciibbboimaccaaWorks
namespace Go.Proofs.Ytciibbboimaccaa
open Go.RowKit

theorem ba_eta (s : ByteArray) : s = ⟨s.data.toList.toArray⟩ := by cases s; simp
theorem ba_size (l : List UInt8) : (⟨l.toArray⟩ : ByteArray).size = l.length := by simp [ByteArray.size]
theorem ba_ext {s t : ByteArray} (h : s.data.toList = t.data.toList) : s = t := ByteArray.ext (Array.toList_inj.1 h)
theorem ba_head (l r : List UInt8) : (⟨(l ++ r).toArray⟩ : ByteArray).extract 0 l.length = ⟨l.toArray⟩ := by
  apply ba_ext; rw [Lib.extract_data]; simp
theorem ba_tail (l r : List UInt8) : (⟨(l ++ r).toArray⟩ : ByteArray).extract l.length (l.length + r.length) = ⟨r.toArray⟩ := by
  apply ba_ext; rw [Lib.extract_data]; simp

theorem rdBytes_app (l r : List UInt8) (n : Int) (h : n = l.length) : rdBytes ⟨(l ++ r).toArray⟩ 0 n = (⟨l.toArray⟩, ⟨r.toArray⟩, 0) := by
  subst h
  have h1 : ¬ (l.length : Int) < 0 := by omega
  have h2 : ¬ (((⟨(l ++ r).toArray⟩ : ByteArray).size : Int) < l.length) := by rw [ba_size, List.length_append]; omega
  have h3 : (⟨(l ++ r).toArray⟩ : ByteArray).size = l.length + r.length := by rw [ba_size, List.length_append]
  unfold rdBytes
  rw [if_neg (by simp), if_neg h1, if_neg h2, Int.toNat_natCast, h3, ba_head, ba_tail]

theorem rdInt_app (l r : List UInt8) (n : Int) (h : n = l.length) (hz : szB n = true) : rdInt ⟨(l ++ r).toArray⟩ 0 n = ((beNat l : Int), ⟨r.toArray⟩, 0) := by
  unfold rdInt
  rw [rdBytes_app l r n h]
  simp [hz]

theorem rdText_app (c : UInt8) (l r : List UInt8) (h : c.toNat = l.length) : rdText ⟨(c :: (l ++ r)).toArray⟩ 0 = (⟨l.toArray⟩, ⟨r.toArray⟩, 0) := by
  have e := rdInt_app [c] (l ++ r) 1 rfl rfl
  unfold rdText
  rw [List.singleton_append] at e
  rw [e]
  exact rdBytes_app l r _ (by simp [beNat, h])

/-- Bytes that were read without an error: they stood at the beginning. -/
theorem rdBytes_inv (s : ByteArray) (e n : Int) (h : (rdBytes s e n).2.2 = 0) :
    e = 0 ∧ ∃ l r : List UInt8, s = ⟨(l ++ r).toArray⟩ ∧ n = (l.length : Int) ∧ rdBytes s e n = (⟨l.toArray⟩, ⟨r.toArray⟩, 0) := by
  by_cases he : e = 0
  · refine ⟨he, ?_⟩
    subst he
    by_cases h1 : n < 0
    · simp [rdBytes, h1] at h
    · by_cases h2 : (s.size : Int) < n
      · simp [rdBytes, h1, h2] at h
      · obtain ⟨k, rfl⟩ := Int.eq_ofNat_of_zero_le (Int.not_lt.1 h1)
        have hk : k ≤ s.data.toList.length := by
          have := Lib.size_eq s
          omega
        have hl : (s.data.toList.take k).length = k := by simp at hk ⊢; omega
        have hs : s = ⟨(s.data.toList.take k ++ s.data.toList.drop k).toArray⟩ := by rw [List.take_append_drop]
        refine ⟨s.data.toList.take k, s.data.toList.drop k, hs, by rw [hl], ?_⟩
        have := rdBytes_app (s.data.toList.take k) (s.data.toList.drop k) (k : Int) (by rw [hl])
        rw [← hs] at this
        exact this
  · simp [rdBytes, he] at h

theorem rdInt_inv (s : ByteArray) (e n : Int) (h : (rdInt s e n).2.2 = 0) :
    e = 0 ∧ szB n = true ∧ ∃ l r : List UInt8, s = ⟨(l ++ r).toArray⟩ ∧ n = (l.length : Int) ∧ rdInt s e n = ((beNat l : Int), ⟨r.toArray⟩, 0) := by
  cases hz : szB n
  · exfalso
    by_cases he : e = 0 <;> simp [rdInt, hz, he] at h
  · have h' : (rdBytes s e n).2.2 = 0 := by simpa [rdInt, hz] using h
    obtain ⟨he, l, r, hs, hn, _⟩ := rdBytes_inv s e n h'
    subst he
    refine ⟨rfl, rfl, l, r, hs, hn, ?_⟩
    rw [hs]
    exact rdInt_app l r n hn hz

theorem rdText_inv (s : ByteArray) (e : Int) (h : (rdText s e).2.2 = 0) :
    e = 0 ∧ ∃ (c : UInt8) (l r : List UInt8), s = ⟨(c :: (l ++ r)).toArray⟩ ∧ c.toNat = l.length ∧ rdText s e = (⟨l.toArray⟩, ⟨r.toArray⟩, 0) := by
  have h1 := rdBytes_inv _ _ _ h
  obtain ⟨he1, l, r, hs1, hn, hr⟩ := h1
  obtain ⟨he, _, l1, r1, hs, hl1, hi⟩ := rdInt_inv s e 1 he1
  refine ⟨he, ?_⟩
  rw [hi] at hs1 hn
  match l1, hl1 with
  | [c], _ =>
    refine ⟨c, l, r, ?_, ?_, ?_⟩
    · have : r1 = l ++ r := by
        have := congrArg (fun b : ByteArray => b.data.toList) hs1
        simpa using this
      rw [hs, this]; rfl
    · simp [beNat] at hn; omega
    · exact hr

theorem putS_nat (l : List UInt8) (n : Int) (h : n = l.length) (hz : szB n = true) : putS n (beNat l : Int) = l ∧ putE n (beNat l : Int) = 0 := by
  have hp : putB n (beNat l : Int) = true := by
    have := beNat_lt l
    simp only [putB, hz, Bool.true_and, decide_eq_true_eq]
    refine ⟨by omega, ?_⟩
    rw [h, Int.toNat_natCast]
    exact Int.ofNat_lt.2 this
  constructor
  · simp only [putS, hp, if_true]
    rw [h, Int.toNat_natCast, Int.toNat_natCast, beBytes_nat _ l rfl]
  · simp [putE, hp]

theorem textS_len (c : UInt8) (l : List UInt8) (h : c.toNat = l.length) : textS ⟨l.toArray⟩ = c :: l ∧ textE ⟨l.toArray⟩ = 0 := by
  have hc := UInt8.toNat_lt c
  have hs : (⟨l.toArray⟩ : ByteArray).size ≤ 255 := by rw [ba_size]; omega
  constructor
  · simp only [textS, hs, if_true]
    rw [ba_size, ← h]
    simp
  · simp [textE, hs]

/-- WHAT IS READ, WRITTEN AGAIN, IS JUST THOSE BYTES. -/
theorem back_reads (b : ByteArray) (n : Int) (h : (rdText (rdInt b 0 n).2.1 (rdInt b 0 n).2.2).2.2 = 0) :
    ∃ p t r : List UInt8, b = ⟨(p ++ t ++ r).toArray⟩ ∧ putS n (rdInt b 0 n).1 = p ∧ putE n (rdInt b 0 n).1 = 0 ∧
      textS (rdText (rdInt b 0 n).2.1 (rdInt b 0 n).2.2).1 = t ∧ textE (rdText (rdInt b 0 n).2.1 (rdInt b 0 n).2.2).1 = 0 ∧
      (rdText (rdInt b 0 n).2.1 (rdInt b 0 n).2.2).2.1 = ⟨r.toArray⟩ := by
  obtain ⟨he, c, l2, r2, hs2, hc, ht⟩ := rdText_inv _ _ h
  obtain ⟨_, hz, l1, r1, hs1, hn, hi⟩ := rdInt_inv b 0 n he
  rw [ht]
  rw [hi] at hs2 ⊢
  have hr : r1 = c :: (l2 ++ r2) := by
    have := congrArg (fun b : ByteArray => b.data.toList) hs2
    simpa using this
  obtain ⟨p1, p2⟩ := putS_nat l1 n hn hz
  obtain ⟨t1, t2⟩ := textS_len c l2 hc
  exact ⟨l1, c :: l2, r2, by rw [hs1, hr]; simp, p1, p2, t1, t2, rfl⟩

/-- WHAT IS WRITTEN IS READ AGAIN. -/
theorem back_writes (size n : Int) (s : ByteArray) (hp : putE size n = 0) (ht : textE s = 0) :
    rdInt ⟨(putS size n ++ textS s).toArray⟩ 0 size = (n, ⟨(textS s).toArray⟩, 0) ∧ rdText ⟨(textS s).toArray⟩ 0 = (s, ⟨#[]⟩, 0) := by
  have hB : putB size n = true := by
    cases h : putB size n
    · simp [putE, h] at hp
    · rfl
  have hS : s.size ≤ 255 := by
    by_cases h : s.size ≤ 255
    · exact h
    · simp [textE, h] at ht
  have h3 : szB size = true ∧ 0 ≤ n ∧ n < ((256 ^ size.toNat : Nat) : Int) := by simpa [putB] using hB
  have h5 : 0 ≤ size := by
    have : size = 1 ∨ size = 2 ∨ size = 4 := by simpa [szB] using h3.1
    omega
  obtain ⟨k, rfl⟩ := Int.eq_ofNat_of_zero_le h5
  obtain ⟨m, rfl⟩ := Int.eq_ofNat_of_zero_le h3.2.1
  have e1 : putS k m = beBytes k m := by simp [putS, hB]
  have hm : m < 256 ^ k := Int.ofNat_lt.1 h3.2.2
  constructor
  · have := rdInt_app (putS k m) (textS s) k (by rw [e1, beBytes_length]) h3.1
    rw [this, e1, beNat_bytes k m hm]
  · have e2 : textS s = UInt8.ofNat s.size :: (s.data.toList ++ []) := by simp [textS, hS]
    have e3 := Lib.size_eq s
    rw [e2, rdText_app _ _ [] (by simp at e3 ⊢; omega)]

end Go.Proofs.Ytciibbboimaccaa

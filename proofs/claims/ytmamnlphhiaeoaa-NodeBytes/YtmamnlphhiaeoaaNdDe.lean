/-
  The plain mathematics of reading a node: a text and a number, one after the other, are a key with its kid.
-/
import Derived.Test.YtmamnlphhiaeoaaNd
import Derived.Test.YtmamnlphhiaeoaaEnRef3
namespace Go.Proofs.Ytmamnlphhiaeoaa
open Go.Shelf Go.RowKit Go.Lib Go.Sort

/-- A text and a number that are read: a key with its kid, or an error. -/
theorem rd_pk (s : ByteArray) (h : s.size ≠ 0) : (rdInt (rdText s 0).2.1 (rdText s 0).2.2 4).2.1.size < s.size ∧
    (((rdInt (rdText s 0).2.1 (rdText s 0).2.2 4).2.2 = 0 ∧ stpK s.data.toList = some (((rdText s 0).1, (rdInt (rdText s 0).2.1 (rdText s 0).2.2 4).1), (rdInt (rdText s 0).2.1 (rdText s 0).2.2 4).2.1.data.toList)) ∨
     ((rdInt (rdText s 0).2.1 (rdText s 0).2.2 4).2.2 ≠ 0 ∧ stpK s.data.toList = none)) := by
  refine ⟨Nat.lt_of_le_of_lt (rdInt_size _ _ _) (rdText_less s h), ?_⟩
  by_cases c : (rdInt (rdText s 0).2.1 (rdText s 0).2.2 4).2.2 = 0
  · left
    refine ⟨c, ?_⟩
    obtain ⟨e1, _, b, r, hs2, hd, hr2⟩ := rdInt_inv _ _ _ c
    obtain ⟨_, c1, a, q, hs1, hc, hr1⟩ := rdText_inv s 0 e1
    rw [hr2, hr1]
    rw [hr1] at hs2
    have hq : q = b ++ r := by
      have := congrArg (fun x : ByteArray => x.data.toList) hs2
      simpa using this
    rw [hs1, hq]
    simp only
    exact stpK_tx c1 a b r hc (by omega)
  · right
    refine ⟨c, ?_⟩
    cases hs : s.data.toList with
    | nil => rfl
    | cons c0 t =>
      simp only [stpK]
      by_cases h1 : t.length < c0.toNat + 4
      · rw [if_pos h1]
      · exfalso
        apply c
        have l1 : c0.toNat = (t.take c0.toNat).length := by simp; omega
        have e1 : s = ⟨(c0 :: (t.take c0.toNat ++ t.drop c0.toNat)).toArray⟩ := by
          apply ba_ext
          rw [hs]
          simp
        have r1 := rdText_app c0 (t.take c0.toNat) (t.drop c0.toNat) l1
        rw [← e1] at r1
        rw [r1]
        have r2 := rdInt_app ((t.drop c0.toNat).take 4) ((t.drop c0.toNat).drop 4) 4 (by simp; omega) (by decide)
        rw [List.take_append_drop] at r2
        rw [r2]

/-- What is told so far of all bytes. -/
def DkI (S s : ByteArray) (k0 e : Int) (out : List Pk) : Prop := (e = 0 ∧ diN S.data.toList = (dkL s.data.toList).map (fun l => inN k0 (out ++ l))) ∨ (e ≠ 0 ∧ diN S.data.toList = none)

theorem diN_long {l r : List UInt8} (h : l.length = 4) : diN (l ++ r) = (dkL r).map (fun x => inN ((beNat l : Nat) : Int) ([] ++ x)) := by
  unfold diN
  have e1 : (l ++ r).drop 4 = r := by rw [← h]; simp
  have e2 : (l ++ r).take 4 = l := by rw [← h]; simp
  rw [if_neg (by rw [List.length_append]; omega), e1, e2]
  rfl
theorem diN_short {s : List UInt8} (h : s.length < 4) : diN s = none := by unfold diN; rw [if_pos h]

theorem DkI.start (S : ByteArray) : DkI S (rdInt S 0 4).2.1 (rdInt S 0 4).1 (rdInt S 0 4).2.2 [] := by
  by_cases c : (rdInt S 0 4).2.2 = 0
  · obtain ⟨_, _, l, r, hs, hn, hr⟩ := rdInt_inv S 0 4 c
    left
    refine ⟨c, ?_⟩
    rw [hr, hs]
    exact diN_long (by omega)
  · right
    refine ⟨c, ?_⟩
    by_cases h : S.data.toList.length < 4
    · exact diN_short h
    · exfalso
      apply c
      have r2 := rdInt_app (S.data.toList.take 4) (S.data.toList.drop 4) 4 (by simp at h ⊢; omega) (by decide)
      rw [List.take_append_drop, ← ba_eta S] at r2
      rw [r2]

theorem map_consK (k0 : Int) (out : List Pk) (x : Pk) (o : Option (List Pk)) : (o.map (x :: ·)).map (fun l => inN k0 (out ++ l)) = o.map (fun l => inN k0 ((out ++ [x]) ++ l)) := by
  cases o <;> simp

theorem DkI.next {S s s2 : ByteArray} {k0 : Int} {out : List Pk} {x : Pk} {e2 : Int} (h : DkI S s k0 0 out) (hs : s.size ≠ 0) (h2 : (e2 = 0 ∧ stpK s.data.toList = some (x, s2.data.toList)) ∨ (e2 ≠ 0 ∧ stpK s.data.toList = none)) : DkI S s2 k0 e2 (out ++ [x]) := by
  rcases h with ⟨_, h⟩ | ⟨h, _⟩
  · rcases h2 with ⟨e, h2⟩ | ⟨e, h2⟩
    · left
      refine ⟨e, ?_⟩
      rw [h, dkL_some h2, map_consK]
    · right
      refine ⟨e, ?_⟩
      rw [h, dkL_none (by
        intro e
        have := Lib.size_eq s
        rw [e] at this
        exact hs this) h2]
      rfl
  · exact absurd rfl h

theorem deN_two {S : List UInt8} (h : S.length ≤ 240) : deN 2 S = match diN S with | none => none | some n => if rtN n = true then some n else none := by
  unfold deN
  rw [if_neg (by omega), if_neg (by decide), if_pos rfl]
  cases diN S <;> rfl
theorem DkI.bad {S s : ByteArray} {k0 e : Int} {out : List Pk} (h : DkI S s k0 e out) (he : e ≠ 0) (hS : S.size ≤ 240) : deN 2 S.data.toList = none := by
  rw [deN_two (by rw [← Lib.size_eq]; exact hS)]
  rcases h with ⟨h, _⟩ | ⟨_, h⟩
  · exact absurd h he
  · rw [h]
theorem DkI.good {S s : ByteArray} {k0 : Int} {out : List Pk} (h : DkI S s k0 0 out) (hs : s.size = 0) (hS : S.size ≤ 240) : deN 2 S.data.toList = if rtN (inN k0 out) = true then some (inN k0 out) else none := by
  rw [deN_two (by rw [← Lib.size_eq]; exact hS)]
  rcases h with ⟨_, h⟩ | ⟨h, _⟩
  · have e : s.data.toList = [] := List.eq_nil_of_length_eq_zero (by rw [← Lib.size_eq]; exact hs)
    rw [e, dkL_nil] at h
    simp only [Option.map_some, List.append_nil] at h
    rw [h]
  · exact absurd rfl h
theorem deR_none {k : Int} {s : List UInt8} (h : deN k s = none) : deR k s = nd0 ∧ deO k s = false := by unfold deR deO; rw [h]; exact ⟨rfl, rfl⟩
theorem deR_some {k : Int} {s : List UInt8} {n : Nd} (h : deN k s = some n) : deR k s = n ∧ deO k s = true := by unfold deR deO; rw [h]; exact ⟨rfl, rfl⟩
theorem deN_long {k : Int} {s : List UInt8} (h : 240 < s.length) : deN k s = none := by unfold deN; rw [if_pos h]
theorem deN_other {k : Int} {s : List UInt8} (h1 : k ≠ 1) (h2 : k ≠ 2) : deN k s = none := by
  unfold deN
  rw [if_neg h1, if_neg h2]
  split <;> rfl
theorem deN_one {s : List UInt8} (h : s.length ≤ 240) : deN 1 s = if deB s = true then some ⟨true, deL s, [], []⟩ else none := by
  unfold deN
  rw [if_neg (by omega), if_pos rfl]
theorem deN_few {s : List UInt8} (h : s.length < 4) : deN 2 s = none := by rw [deN_two (by omega), diN_short h]

theorem stpK_short {L : List UInt8} (h : 0 < L.length) (h2 : L.length < L[0].toNat + 5) : stpK L = none := by
  cases L with
  | nil => rfl
  | cons c t =>
    simp only [List.getElem_cons_zero, List.length_cons] at h2
    simp only [stpK]
    rw [if_pos (by omega)]
theorem stpK_long {L : List UInt8} {n : Nat} (h : 0 < L.length) (hn : L[0].toNat = n) (h2 : n + 5 ≤ L.length) : stpK L = some ((⟨((L.drop 1).take n).toArray⟩, ((beNat ((L.drop (n + 1)).take 4) : Nat) : Int)), L.drop (n + 5)) := by
  cases L with
  | nil => simp at h
  | cons c t =>
    simp only [List.getElem_cons_zero] at hn
    simp only [List.length_cons] at h2
    simp only [stpK]
    rw [if_neg (by omega), hn]
    simp
/-- One step of reading, in the bytes' own words. -/
theorem stpK_ba0 (s : ByteArray) (h : 0 < s.size) (n : Nat) (hn : (s[0]'h).toNat = n) (h2 : s.size < n + 5) : stpK s.data.toList = none := by
  have e := Lib.size_eq s
  refine stpK_short (by omega) ?_
  rw [ba_get s 0 h, hn]
  omega
theorem stpK_ba1 (s : ByteArray) (h : 0 < s.size) (n : Nat) (hn : (s[0]'h).toNat = n) (h2 : n + 5 ≤ s.size) : stpK s.data.toList = some ((s.extract 1 (n + 1), ((beNat (s.extract (n + 1) (n + 5)).data.toList : Nat) : Int)), (s.extract (n + 5) s.size).data.toList) := by
  have e := Lib.size_eq s
  have e1 : (⟨((s.data.toList.drop 1).take n).toArray⟩ : ByteArray) = (s.extract 1 (n + 1)) := by
    apply ba_ext; rw [Lib.extract_data]; simp
  have e2 : (s.extract (n + 1) (n + 5)).data.toList = (s.data.toList.drop (n + 1)).take 4 := by
    rw [Lib.extract_data, show n + 5 - (n + 1) = 4 by omega]
  have e3 : (s.extract (n + 5) s.size).data.toList = s.data.toList.drop (n + 5) := by
    rw [Lib.extract_data, e, List.take_of_length_le (by simp)]
  rw [stpK_long (n := n) (by omega) (by rw [ba_get s 0 h]; exact hn) (by omega), e1, e2, e3]

end Go.Proofs.Ytmamnlphhiaeoaa

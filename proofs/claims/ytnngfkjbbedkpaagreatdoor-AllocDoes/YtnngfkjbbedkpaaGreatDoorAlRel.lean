/-
  A change, and the document's change of the same file: what is the same, plain.
-/
import Derived.Test.YtnngfkjbbedkpaaGreatDoorAlRef3
namespace Go.Proofs.YtnngfkjbbedkpaaGreatDoor
open Go.Shelf Go.RowKit Go.Lib Go.Sort
set_option linter.unusedVariables false

theorem bAt_setG (tl : List Bool) {i j : Nat} (hi : i < tl.length) (s : Bool) : bAt (tl.set i s) j = if i = j then s else bAt tl j := by
  unfold bAt
  rw [List.getD_eq_getElem?_getD, List.getD_eq_getElem?_getD, List.getElem?_set]
  by_cases h : i = j
  · subst h; simp [hi]
  · simp [h]
theorem bAt_snoc (tl : List Bool) (s : Bool) (j : Nat) : bAt (tl ++ [s]) j = if j = tl.length then s else bAt tl j := by
  unfold bAt
  rw [List.getD_eq_getElem?_getD, List.getD_eq_getElem?_getD]
  by_cases h : j = tl.length
  · subst h; simp
  · rcases Nat.lt_or_ge j tl.length with h1 | h1
    · rw [List.getElem?_append_left h1, if_neg h]
    · rw [if_neg h, List.getElem?_eq_none (by simp; omega), List.getElem?_eq_none h1]

/-- What is the same of both. -/
structure Rel (x : TX) (y : RX) : Prop where
  len : y.Len x.pages
  fr : ∀ i : Nat, i < x.pages → bAt y.free i = hasB x.free i
  fs : ∀ i : Nat, i < x.pages → bAt y.fresh i = (x.fresh i).isSome
  hs : ∀ i : Nat, i < x.pages → bAt y.has i = ((x.fresh i).getD c0).there
  kd : ∀ i : Nat, i < x.pages → ((x.fresh i).getD c0).there = true → kAt y.kind i = ((x.fresh i).getD c0).kind ∧ sAt y.body i = ((x.fresh i).getD c0).body

theorem newR_at (fr : List Pr) : ∀ (n i : Nat), i < n → bAt (newR fr n).free i = isFree fr i ∧ bAt (newR fr n).fresh i = false ∧ bAt (newR fr n).has i = false
  | 0, i, h => by omega
  | n + 1, i, h => by
    have hl := newR_len fr n
    show bAt ((newR fr n).free ++ [isFree fr n]) i = _ ∧ bAt ((newR fr n).fresh ++ [false]) i = _ ∧ bAt ((newR fr n).has ++ [false]) i = _
    rw [bAt_snoc, bAt_snoc, bAt_snoc, hl.l1, hl.l2, hl.l3]
    by_cases hi : i = n
    · subst hi; simp
    · rw [if_neg hi, if_neg hi, if_neg hi]; exact newR_at fr n i (by omega)
theorem Rel.new (fr : List Pr) (pages : Int) {room : Nat} (h : 2 ≤ room) (h2 : room ≤ 16384) : Rel (TX.new fr pages room) (newR fr (pagesOf pages room)) := by
  obtain ⟨p2, p3⟩ := pagesOf_ok pages h
  refine ⟨newR_len _ _, fun i hi => ?_, fun i hi => (newR_at fr _ i hi).2.1, fun i hi => (newR_at fr _ i hi).2.2, fun i hi ht => by cases ht⟩
  have hi' : i < pagesOf pages room := hi
  rw [(newR_at fr (pagesOf pages room) i hi).1]
  refine (hasB_eq ?_).symm
  show InR (meL fr [(2, (pagesOf pages room : Int) - 1)]) i ↔ _
  rw [meL_in, inR_one]
  unfold isFree
  rw [Bool.and_eq_true_iff, decide_eq_true_iff, hasB_iff]
  constructor
  · rintro ⟨a, b⟩; simp only at b; exact ⟨by omega, a⟩
  · rintro ⟨a, b⟩; exact ⟨b, by simp only; omega⟩

/-- The page that is taken out of those that are free. -/
theorem Rel.take {x : TX} {y : RX} {room i : Nat} (h : Rel x y) (ok : x.Ok room) (hi : i < x.pages) (hb : bAt y.free i = true) (hlt : ∀ j, 2 ≤ j → j < i → bAt y.free j = false) :
    (x.alloc room).1 = ((i : Int), 0) ∧ Rel (x.alloc room).2 ⟨y.free.set i false, y.fresh.set i true, y.has, y.kind, y.body⟩ := by
  have hin : InR x.free i := (hasB_iff _ _).1 ((h.fr i hi).symm.trans hb)
  obtain ⟨fr, p, g, c⟩ := x
  cases fr with
  | nil => exact absurd hin (inR_nil _)
  | cons r s =>
    have h0 : InR (r :: s) r.1 := ok.cn.head_in (Int.le_refl _) (cn_cons.1 ok.cn).1.2.1
    have b0 := ok.fr r.1 h0
    have hle : r.1 ≤ (i : Int) := ok.cn.head_le hin
    simp only at b0 hi
    have e : r.1 = (i : Int) := by
      rcases Int.lt_or_le r.1 (i : Int) with hl | hl
      · obtain ⟨k, hk⟩ : ∃ k : Nat, r.1 = (k : Int) := ⟨r.1.toNat, by omega⟩
        have := hlt k (by omega) (by omega)
        rw [h.fr k (by simp only; omega), ← hk, hasB_yes h0] at this
        cases this
      · omega
    obtain ⟨_, _, _, _, d2⟩ := dropF_ok ok.cn
    have l1 := h.len.l1
    have l2 := h.len.l2
    simp only at l1 l2
    refine ⟨by show (r.1, (0 : Int)) = _; rw [e], ⟨by rw [List.length_set]; exact h.len.l1, by rw [List.length_set]; exact h.len.l2, h.len.l3, h.len.l4, h.len.l5⟩, fun j hj => ?_, fun j hj => ?_, fun j hj => ?_, fun j hj => ?_⟩
    · show bAt (y.free.set i false) j = hasB (dropF (r :: s)) j
      rw [bAt_setG _ (by omega)]
      refine (hasB_eq ?_).symm
      rw [d2]
      by_cases hij : i = j
      · subst hij; rw [if_pos rfl]; constructor
        · rintro ⟨_, a⟩; omega
        · intro a; cases a
      · rw [if_neg hij, h.fr j hj, hasB_iff]
        constructor
        · rintro ⟨a, _⟩; exact a
        · intro a; exact ⟨a, by have := ok.cn.head_le a; omega⟩
    · show bAt (y.fresh.set i true) j = (putF g r.1 c0 j).isSome
      rw [bAt_setG _ (by omega), putF_some, e]
      by_cases hij : i = j
      · subst hij; simp
      · rw [if_neg hij, h.fs j hj]; simp; omega
    · show bAt y.has j = ((putF g r.1 c0 j).getD c0).there
      rw [h.hs j hj]
      unfold putF
      by_cases hij : (j : Int) = r.1
      · rw [if_pos hij]
        have := ok.dj r.1 h0
        simp only at this ⊢
        rw [hij]
        cases hg : g r.1 with
        | none => rfl
        | some c => rw [hg] at this; cases this
      · rw [if_neg hij]
    · show ((putF g r.1 c0 j).getD c0).there = true → _ = ((putF g r.1 c0 j).getD c0).kind ∧ _ = ((putF g r.1 c0 j).getD c0).body
      unfold putF
      by_cases hij : (j : Int) = r.1
      · rw [if_pos hij]; intro a; cases a
      · rw [if_neg hij]; exact h.kd j hj
/-- None is free. -/
theorem Rel.nofree {x : TX} {y : RX} {room : Nat} (h : Rel x y) (ok : x.Ok room) (hlt : ∀ j, 2 ≤ j → j < x.pages → bAt y.free j = false) : x.free = [] := by
  cases hf : x.free with
  | nil => rfl
  | cons r s =>
    have hc := ok.cn
    rw [hf] at hc
    have h0 : InR x.free r.1 := by rw [hf]; exact hc.head_in (Int.le_refl _) (cn_cons.1 hc).1.2.1
    have b0 := ok.fr r.1 h0
    obtain ⟨k, hk⟩ : ∃ k : Nat, r.1 = (k : Int) := ⟨r.1.toNat, by omega⟩
    have := hlt k (by omega) (by omega)
    rw [h.fr k (by omega), ← hk, hasB_yes h0] at this
    cases this
theorem Rel.full {x : TX} {y : RX} {room : Nat} (h : Rel x y) (hf : x.free = []) (hr : room ≤ x.pages) : (x.alloc room).1 = (0, 2) ∧ (x.alloc room).2 = x := by
  obtain ⟨fr, p, g, c⟩ := x
  simp only at hf hr
  subst hf
  simp [TX.alloc, hr]
/-- The page behind all others. -/
theorem Rel.behind {x : TX} {y : RX} {room : Nat} (h : Rel x y) (ok : x.Ok room) (hf : x.free = []) (hr : ¬ room ≤ x.pages) :
    (x.alloc room).1 = ((x.pages : Int), 0) ∧ Rel (x.alloc room).2 ⟨(y.grow false).free, (y.grow false).fresh.set x.pages true, (y.grow false).has, (y.grow false).kind, (y.grow false).body⟩ := by
  obtain ⟨fr, p, g, c⟩ := x
  simp only at hf hr
  subst hf
  have e : TX.alloc ⟨[], p, g, c⟩ room = (((p : Int), 0), ⟨[], p + 1, putF g p c0, c + 1⟩) := by simp [TX.alloc, hr]
  rw [e]
  have l1 := h.len.l1
  have l2 := h.len.l2
  have l3 := h.len.l3
  have l4 := h.len.l4
  have l5 := h.len.l5
  simp only at l1 l2 l3 l4 l5
  have hgp : g p = none := by
    cases hh : g p with
    | none => rfl
    | some c => have := ok.fs p (by simp only; rw [hh]; rfl); simp only at this; omega
  have hg := h.len.grow false
  refine ⟨rfl, ⟨hg.l1, by simp only [List.length_set]; exact hg.l2, hg.l3, hg.l4, hg.l5⟩, fun i hi => ?_, fun i hi => ?_, fun i hi => ?_, fun i hi => ?_⟩
  · show bAt (y.free ++ [false]) i = hasB [] i
    rw [bAt_snoc, hasB_no (inR_nil _)]
    split
    · rfl
    · rename_i hne
      have hi' : i < p + 1 := hi
      rw [h.fr i (by simp only; omega)]
      exact hasB_no (inR_nil _)
  · show bAt ((y.fresh ++ [false]).set p true) i = (putF g p c0 i).isSome
    have hi' : i < p + 1 := hi
    rw [bAt_setG _ (by simp; omega), bAt_snoc, putF_some]
    by_cases hip : p = i
    · subst hip; simp
    · rw [if_neg hip, if_neg (by omega), h.fs i (by simp only; omega)]; simp; omega
  · show bAt (y.has ++ [false]) i = ((putF g p c0 i).getD c0).there
    have hi' : i < p + 1 := hi
    rw [bAt_snoc]
    unfold putF
    by_cases hip : p = i
    · subst hip; rw [if_pos (by omega), if_pos rfl]; rfl
    · rw [if_neg (by omega), if_neg (by omega)]; exact h.hs i (by simp only; omega)
  · show ((putF g p c0 i).getD c0).there = true → kAt (y.kind ++ [0]) i = ((putF g p c0 i).getD c0).kind ∧ sAt (y.body ++ [ByteArray.empty]) i = ((putF g p c0 i).getD c0).body
    have hi' : i < p + 1 := hi
    unfold putF
    by_cases hip : (i : Int) = (p : Int)
    · rw [if_pos hip]; intro a; cases a
    · rw [if_neg hip]
      intro a
      obtain ⟨k1, k2⟩ := h.kd i (by simp only; omega) a
      simp only at k1 k2
      rw [← k1, ← k2]
      unfold kAt sAt
      constructor
      · rw [List.getD_eq_getElem?_getD, List.getD_eq_getElem?_getD, List.getElem?_append_left (by omega)]
      · rw [List.getD_eq_getElem?_getD, List.getD_eq_getElem?_getD, List.getElem?_append_left (by omega)]

theorem Rel.is {x : TX} {y : RX} {room : Nat} (h : Rel x y) (ok : x.Ok room) (id : Int) : y.is id = (x.fresh id).isSome := by
  unfold RX.is
  rw [h.len.l2]
  by_cases hi : 0 ≤ id ∧ id < x.pages
  · obtain ⟨n, rfl⟩ : ∃ n : Nat, id = (n : Int) := ⟨id.toNat, by omega⟩
    rw [decide_eq_true hi, Bool.true_and, Int.toNat_natCast]
    exact h.fs n (by omega)
  · rw [decide_eq_false hi, Bool.false_and]
    cases hh : (x.fresh id).isSome with
    | false => rfl
    | true => have := ok.fs id hh; omega

end Go.Proofs.YtnngfkjbbedkpaaGreatDoor

/-
  Texts of elder layers, joined: Rn, Rn2, RnMem, RnSmall, RnRef, RnPut, RnRef2.
-/
import Derived.Sort.Statements
import Derived.Lib.Small
import Derived.Shelf.SlSortCmp.KitK
import Derived.Shelf.SlSortCmp.QuietGrown
import Derived.Lib.SliceRun
import Derived.Laws.AppendOwnNone
import Derived.WalkKit
import Derived.WalkSpells
import Derived.WalkLawsBesides
import Derived.Deep.RegionHeld3
import Derived.Test.YtnngfkjbbedkpaaGreatDoorProg
import Derived.Test.YtnngfkjbbedkpaaGreatDoorShelf
import Derived.BigQuiet
import Derived.Deep.DeepCutAuto
namespace Go.Proofs.YtnngfkjbbedkpaaGreatDoor

/-! Rn -/
section
abbrev Pr := Int × Int

/-- n is one of the set that l stands for. -/
def InR (l : List Pr) (n : Int) : Prop := 0 ≤ n ∧ n ≤ 4294967295 ∧ ∃ r ∈ l, r.1 ≤ n ∧ n ≤ r.2

def inP (n : Int) (r : Pr) : Bool := decide (r.1 ≤ n) && decide (n ≤ r.2)
def hasB (l : List Pr) (n : Int) : Bool := (decide (0 ≤ n) && decide (n ≤ 4294967295)) && l.any (inP n)
theorem hasB_iff (l : List Pr) (n : Int) : hasB l n = true ↔ InR l n := by
  unfold hasB InR inP
  simp only [Bool.and_eq_true, decide_eq_true_eq, List.any_eq_true]
  constructor
  · rintro ⟨⟨h1, h2⟩, h3⟩; exact ⟨h1, h2, h3⟩
  · rintro ⟨h1, h2, h3⟩; exact ⟨⟨h1, h2⟩, h3⟩
theorem hasB_yes {l : List Pr} {n : Int} (h : InR l n) : hasB l n = true := (hasB_iff l n).2 h
theorem hasB_no {l : List Pr} {n : Int} (h : ¬ InR l n) : hasB l n = false := by
  cases e : hasB l n with
  | false => rfl
  | true => exact absurd ((hasB_iff l n).1 e) h
theorem hasB_eq {l : List Pr} {n : Int} {b : Bool} (h : InR l n ↔ b = true) : hasB l n = b := by
  cases b with
  | true => exact hasB_yes (h.2 rfl)
  | false => exact hasB_no fun k => by have := h.1 k; cases this

/-- In the one way: rising, none empty, between two runs at least one number is missing. -/
def Cn (l : List Pr) : Prop := (∀ r ∈ l, 0 ≤ r.1 ∧ r.1 ≤ r.2 ∧ r.2 ≤ 4294967295) ∧ l.Pairwise fun r s => r.2 + 1 < s.1

theorem Cn.nil : Cn [] := ⟨fun _ h => by simp at h, List.Pairwise.nil⟩

theorem cn_cons {r : Pr} {l : List Pr} : Cn (r :: l) ↔ (0 ≤ r.1 ∧ r.1 ≤ r.2 ∧ r.2 ≤ 4294967295) ∧ (∀ s ∈ l, r.2 + 1 < s.1) ∧ Cn l := by
  unfold Cn
  rw [List.pairwise_cons]
  constructor
  · rintro ⟨h1, h2, h3⟩
    exact ⟨h1 r (by simp), h2, fun s hs => h1 s (by simp [hs]), h3⟩
  · rintro ⟨h1, h2, h3, h4⟩
    refine ⟨fun s hs => ?_, h2, h4⟩
    rcases List.mem_cons.1 hs with rfl | hs
    · exact h1
    · exact h3 s hs

theorem cn_snoc {r : Pr} {l : List Pr} : Cn (l ++ [r]) ↔ Cn l ∧ (∀ s ∈ l, s.2 + 1 < r.1) ∧ (0 ≤ r.1 ∧ r.1 ≤ r.2 ∧ r.2 ≤ 4294967295) := by
  unfold Cn
  rw [List.pairwise_append]
  constructor
  · rintro ⟨h1, h2, _, h4⟩
    exact ⟨⟨fun s hs => h1 s (by simp [hs]), h2⟩, fun s hs => h4 s hs r (by simp), h1 r (by simp)⟩
  · rintro ⟨⟨h1, h2⟩, h3, h4⟩
    refine ⟨fun s hs => ?_, h2, by simp, fun s hs t ht => ?_⟩
    · rcases List.mem_append.1 hs with hs | hs
      · exact h1 s hs
      · rw [List.mem_singleton.1 hs]; exact h4
    · rw [List.mem_singleton.1 ht]; exact h3 s hs

theorem inR_nil (n : Int) : ¬ InR [] n := fun ⟨_, _, r, h, _⟩ => by simp at h

theorem inR_cons (r : Pr) (l : List Pr) (n : Int) : InR (r :: l) n ↔ (0 ≤ n ∧ n ≤ 4294967295 ∧ r.1 ≤ n ∧ n ≤ r.2) ∨ InR l n := by
  unfold InR
  constructor
  · rintro ⟨h1, h2, s, hs, h3, h4⟩
    rcases List.mem_cons.1 hs with rfl | hs
    · exact Or.inl ⟨h1, h2, h3, h4⟩
    · exact Or.inr ⟨h1, h2, s, hs, h3, h4⟩
  · rintro (⟨h1, h2, h3, h4⟩ | ⟨h1, h2, s, hs, h3, h4⟩)
    · exact ⟨h1, h2, r, by simp, h3, h4⟩
    · exact ⟨h1, h2, s, by simp [hs], h3, h4⟩

theorem inR_append (l m : List Pr) (n : Int) : InR (l ++ m) n ↔ InR l n ∨ InR m n := by
  induction l with
  | nil => simp [inR_nil]
  | cons r l ih => rw [List.cons_append, inR_cons, inR_cons, ih]; exact or_assoc.symm

theorem inR_one (r : Pr) (n : Int) : InR [r] n ↔ 0 ≤ n ∧ n ≤ 4294967295 ∧ r.1 ≤ n ∧ n ≤ r.2 := by
  rw [inR_cons]; simp [inR_nil]

/-- A member of a tail lies behind the head. -/
theorem Cn.tail_gt {r : Pr} {l : List Pr} (h : Cn (r :: l)) {n : Int} (hn : InR l n) : r.2 + 1 < n := by
  obtain ⟨_, h2, _⟩ := cn_cons.1 h
  obtain ⟨_, _, s, hs, h3, _⟩ := hn
  have := h2 s hs
  omega

theorem Cn.head_le {r : Pr} {l : List Pr} (h : Cn (r :: l)) {n : Int} (hn : InR (r :: l) n) : r.1 ≤ n := by
  obtain ⟨h1, _, _⟩ := cn_cons.1 h
  rcases (inR_cons r l n).1 hn with h2 | h2
  · omega
  · have := h.tail_gt h2; omega

theorem Cn.head_in {r : Pr} {l : List Pr} (h : Cn (r :: l)) {n : Int} (h1 : r.1 ≤ n) (h2 : n ≤ r.2) : InR (r :: l) n := by
  obtain ⟨h3, _, _⟩ := cn_cons.1 h
  exact (inR_cons r l n).2 (Or.inl ⟨by omega, by omega, h1, h2⟩)

theorem Cn.in_tail {r : Pr} {l : List Pr} (h : Cn (r :: l)) (n : Int) : InR l n ↔ InR (r :: l) n ∧ r.2 < n := by
  constructor
  · intro hn
    have := h.tail_gt hn
    exact ⟨(inR_cons r l n).2 (Or.inr hn), by omega⟩
  · rintro ⟨h1, h2⟩
    rcases (inR_cons r l n).1 h1 with h3 | h3
    · omega
    · exact h3

/-- Two lists in the one way that stand for one set are the same. -/
theorem cn_ext : ∀ (l m : List Pr), Cn l → Cn m → (∀ n, InR l n ↔ InR m n) → l = m
  | [], [], _, _, _ => rfl
  | [], s :: m, _, hm, h => by
    obtain ⟨h1, _, _⟩ := cn_cons.1 hm
    exact absurd ((h s.1).2 (hm.head_in (Int.le_refl _) (by omega))) (inR_nil _)
  | r :: l, [], hl, _, h => by
    obtain ⟨h1, _, _⟩ := cn_cons.1 hl
    exact absurd ((h r.1).1 (hl.head_in (Int.le_refl _) (by omega))) (inR_nil _)
  | r :: l, s :: m, hl, hm, h => by
    have hr := (cn_cons.1 hl).1
    have hs := (cn_cons.1 hm).1
    have e1 : r.1 = s.1 := by
      have a := hm.head_le ((h r.1).1 (hl.head_in (Int.le_refl _) (by omega)))
      have b := hl.head_le ((h s.1).2 (hm.head_in (Int.le_refl _) (by omega)))
      omega
    have e2 : r.2 = s.2 := by
      rcases Int.lt_trichotomy r.2 s.2 with c | c | c
      · have a := (h (r.2 + 1)).2 (hm.head_in (by omega) (by omega))
        rcases (inR_cons r l _).1 a with a | a
        · omega
        · have := hl.tail_gt a; omega
      · exact c
      · have a := (h (s.2 + 1)).1 (hl.head_in (by omega) (by omega))
        rcases (inR_cons s m _).1 a with a | a
        · omega
        · have := hm.tail_gt a; omega
    have e : r = s := by
      obtain ⟨a, b⟩ := r
      obtain ⟨c, d⟩ := s
      rw [Prod.mk.injEq]
      exact ⟨e1, e2⟩
    subst e
    rw [cn_ext l m (cn_cons.1 hl).2.2 (cn_cons.1 hm).2.2 fun n => by rw [hl.in_tail, hm.in_tail, h n]]

/-! ### The document's functions, plainly -/

def clipR (r : Pr) : Pr := (max r.1 0, min r.2 4294967295)

def putGo (r : Pr) (done : Bool) : List Pr → List Pr
  | [] => if done then [] else [r]
  | y :: l =>
    if y.2 + 1 < r.1 then y :: putGo r done l
    else if r.2 + 1 < y.1 then (if done then y :: putGo r done l else r :: y :: putGo r true l)
    else putGo (min r.1 y.1, max r.2 y.2) done l

/-- A list in the one way, with one run more. -/
def putL (l : List Pr) (x : Pr) : List Pr := if (clipR x).1 ≤ (clipR x).2 then putGo (clipR x) false l else l

/-- In the one way. -/
def nmL (l : List Pr) : List Pr := l.foldl putL []

def unL (a b : List Pr) : List Pr := nmL (a ++ b)

def cutL (out : List Pr) (r : Pr) : List Pr := out.foldl (fun nx y => putL (putL nx (y.1, min y.2 (r.1 - 1))) (max y.1 (r.2 + 1), y.2)) []
def cutS (out : List Pr) (x : Pr) : List Pr := if (clipR x).1 ≤ (clipR x).2 then cutL out (clipR x) else out

def mnL (a b : List Pr) : List Pr := b.foldl cutS (nmL a)
def meL (a b : List Pr) : List Pr := mnL a (mnL a b)

def cntL (s : List Pr) : Int := s.foldl (fun n r => n + r.2 - r.1 + 1) 0

theorem putGo_true : ∀ (l : List Pr) (r : Pr), r.1 ≤ r.2 → Cn l → (∀ y ∈ l, r.2 + 1 < y.1) → putGo r true l = l
  | [], _, _, _, _ => rfl
  | y :: l, r, hr, hl, h => by
    have h1 := h y (by simp)
    obtain ⟨h2, _, h4⟩ := cn_cons.1 hl
    rw [putGo, if_neg (by omega), if_pos h1, if_pos rfl, putGo_true l r hr h4 fun z hz => h z (by simp [hz])]

theorem putGo_ge : ∀ (l : List Pr) (r : Pr) (z : Pr), r.1 ≤ r.2 → Cn l → z ∈ putGo r false l → r.1 ≤ z.1 ∨ ∃ y ∈ l, y.1 ≤ z.1
  | [], r, z, _, _, hz => by
    simp [putGo] at hz
    rw [hz]; exact Or.inl (Int.le_refl _)
  | y :: l, r, z, hr, hl, hz => by
    obtain ⟨h2, h3, h4⟩ := cn_cons.1 hl
    rw [putGo] at hz
    split at hz
    · rcases List.mem_cons.1 hz with rfl | hz
      · exact Or.inr ⟨z, by simp, Int.le_refl _⟩
      · rcases putGo_ge l r z hr h4 hz with h | ⟨s, hs, h⟩
        · exact Or.inl h
        · exact Or.inr ⟨s, by simp [hs], h⟩
    · split at hz
      · rw [if_neg (by simp), putGo_true l r hr h4 fun s hs => by have := h3 s hs; omega] at hz
        rcases List.mem_cons.1 hz with rfl | hz
        · exact Or.inl (Int.le_refl _)
        · exact Or.inr ⟨z, hz, Int.le_refl _⟩
      · rcases putGo_ge l _ z (by simp only; omega) h4 hz with h | ⟨s, hs, h⟩
        · simp only at h
          rcases Int.le_total r.1 y.1 with c | c
          · exact Or.inl (by omega)
          · exact Or.inr ⟨y, by simp, by omega⟩
        · exact Or.inr ⟨s, by simp [hs], h⟩

theorem putGo_cn : ∀ (l : List Pr) (r : Pr), 0 ≤ r.1 → r.1 ≤ r.2 → r.2 ≤ 4294967295 → Cn l → Cn (putGo r false l) ∧ ∀ n, InR (putGo r false l) n ↔ InR (r :: l) n
  | [], r, h0, hr, h1, _ => by
    refine ⟨?_, fun n => Iff.rfl⟩
    show Cn [r]
    exact cn_cons.2 ⟨⟨h0, hr, h1⟩, fun _ h => by simp at h, Cn.nil⟩
  | y :: l, r, h0, hr, h1, hl => by
    obtain ⟨h2, h3, h4⟩ := cn_cons.1 hl
    rw [putGo]
    split
    · obtain ⟨c1, c2⟩ := putGo_cn l r h0 hr h1 h4
      refine ⟨cn_cons.2 ⟨h2, fun s hs => ?_, c1⟩, fun n => ?_⟩
      · rcases putGo_ge l r s hr h4 hs with h | ⟨t, ht, h⟩
        · omega
        · have := h3 t ht; omega
      · rw [inR_cons, c2 n, inR_cons, inR_cons, inR_cons]
        constructor
        · rintro (h | h | h)
          · exact Or.inr (Or.inl h)
          · exact Or.inl h
          · exact Or.inr (Or.inr h)
        · rintro (h | h | h)
          · exact Or.inr (Or.inl h)
          · exact Or.inl h
          · exact Or.inr (Or.inr h)
    · split
      · rw [if_neg (by simp), putGo_true l r hr h4 fun s hs => by have := h3 s hs; omega]
        refine ⟨cn_cons.2 ⟨⟨h0, hr, h1⟩, fun s hs => ?_, hl⟩, fun n => Iff.rfl⟩
        rcases List.mem_cons.1 hs with rfl | hs
        · assumption
        · have := h3 s hs; omega
      · obtain ⟨c1, c2⟩ := putGo_cn l (min r.1 y.1, max r.2 y.2) (by simp only; omega) (by simp only; omega) (by simp only; omega) h4
        refine ⟨c1, fun n => ?_⟩
        rw [c2 n, inR_cons, inR_cons, inR_cons]
        simp only
        constructor
        · rintro (h | h)
          · by_cases k : r.1 ≤ n ∧ n ≤ r.2
            · exact Or.inl ⟨h.1, h.2.1, k.1, k.2⟩
            · exact Or.inr (Or.inl (by omega))
          · exact Or.inr (Or.inr h)
        · rintro (h | h | h)
          · exact Or.inl (by omega)
          · exact Or.inl (by omega)
          · exact Or.inr h

theorem putGo_length : ∀ (l : List Pr) (r : Pr) (d : Bool), (putGo r d l).length ≤ l.length + (if d then 0 else 1)
  | [], r, d => by cases d <;> simp [putGo]
  | y :: l, r, d => by
    rw [putGo]
    split
    · have := putGo_length l r d; simp only [List.length_cons]; omega
    · split
      · cases d with
        | true => have := putGo_length l r true; simp at *; omega
        | false => have := putGo_length l r true; simp at *; omega
      · have := putGo_length l (min r.1 y.1, max r.2 y.2) d; simp only [List.length_cons]; omega

theorem inR_clip (x : Pr) (l : List Pr) (n : Int) : InR (clipR x :: l) n ↔ InR (x :: l) n := by
  rw [inR_cons, inR_cons]
  simp only [clipR]
  constructor
  · rintro (h | h)
    · exact Or.inl (by omega)
    · exact Or.inr h
  · rintro (h | h)
    · exact Or.inl (by omega)
    · exact Or.inr h

theorem putL_cn (l : List Pr) (x : Pr) (h : Cn l) : Cn (putL l x) ∧ ∀ n, InR (putL l x) n ↔ InR (x :: l) n := by
  unfold putL
  by_cases c : (clipR x).1 ≤ (clipR x).2
  · rw [if_pos c]
    obtain ⟨c1, c2⟩ := putGo_cn l (clipR x) (by simp only [clipR]; omega) c (by simp only [clipR]; omega) h
    exact ⟨c1, fun n => by rw [c2 n, inR_clip]⟩
  · rw [if_neg c]
    refine ⟨h, fun n => ?_⟩
    rw [inR_cons]
    constructor
    · exact Or.inr
    · rintro (k | k)
      · simp only [clipR] at c; omega
      · exact k

theorem putL_length (l : List Pr) (x : Pr) : (putL l x).length ≤ l.length + 1 := by
  unfold putL
  split
  · exact putGo_length l _ false
  · omega

theorem fold_put_cn : ∀ (l m : List Pr), Cn m → Cn (l.foldl putL m) ∧ (∀ n, InR (l.foldl putL m) n ↔ InR l n ∨ InR m n) ∧ (l.foldl putL m).length ≤ m.length + l.length
  | [], m, h => ⟨h, fun n => by simp [inR_nil], by simp⟩
  | x :: l, m, h => by
    obtain ⟨c1, c2⟩ := putL_cn m x h
    obtain ⟨d1, d2, d3⟩ := fold_put_cn l (putL m x) c1
    refine ⟨d1, fun n => ?_, ?_⟩
    · rw [List.foldl_cons, d2 n, c2 n, inR_cons, inR_cons]
      constructor
      · rintro (k | k | k)
        · exact Or.inl (Or.inr k)
        · exact Or.inl (Or.inl k)
        · exact Or.inr k
      · rintro ((k | k) | k)
        · exact Or.inr (Or.inl k)
        · exact Or.inl k
        · exact Or.inr (Or.inr k)
    · have := putL_length m x
      rw [List.foldl_cons, List.length_cons]
      omega

theorem nmL_cn (l : List Pr) : Cn (nmL l) := (fold_put_cn l [] Cn.nil).1
theorem nmL_in (l : List Pr) (n : Int) : InR (nmL l) n ↔ InR l n := by
  rw [nmL, (fold_put_cn l [] Cn.nil).2.1 n]; simp [inR_nil]
theorem nmL_length (l : List Pr) : (nmL l).length ≤ l.length := by
  have := (fold_put_cn l [] Cn.nil).2.2
  rw [nmL]; simpa using this

theorem eq_nmL {s l : List Pr} (h : Cn s) (k : ∀ n, InR s n ↔ InR l n) : s = nmL l := cn_ext _ _ h (nmL_cn l) fun n => by rw [k n, nmL_in]

theorem nmL_of_cn {s : List Pr} (h : Cn s) : nmL s = s := (eq_nmL h fun _ => Iff.rfl).symm

theorem cut_fold : ∀ (l m : List Pr) (r : Pr), 0 ≤ r.1 → r.2 ≤ 4294967295 → r.1 ≤ r.2 → Cn m → (∀ y ∈ l, 0 ≤ y.1 ∧ y.1 ≤ y.2 ∧ y.2 ≤ 4294967295) →
    Cn (l.foldl (fun nx y => putL (putL nx (y.1, min y.2 (r.1 - 1))) (max y.1 (r.2 + 1), y.2)) m) ∧ (∀ n, InR (l.foldl (fun nx y => putL (putL nx (y.1, min y.2 (r.1 - 1))) (max y.1 (r.2 + 1), y.2)) m) n ↔ (InR l n ∧ ¬ (r.1 ≤ n ∧ n ≤ r.2)) ∨ InR m n) ∧
    (l.foldl (fun nx y => putL (putL nx (y.1, min y.2 (r.1 - 1))) (max y.1 (r.2 + 1), y.2)) m).length ≤ m.length + 2 * l.length
  | [], m, _, _, _, _, hm, _ => ⟨hm, fun n => by simp [inR_nil], by simp⟩
  | y :: l, m, r, h0, h1, h2, hm, hy => by
    obtain ⟨c1, c2⟩ := putL_cn m (y.1, min y.2 (r.1 - 1)) hm
    obtain ⟨d1, d2⟩ := putL_cn _ (max y.1 (r.2 + 1), y.2) c1
    obtain ⟨e1, e2, e3⟩ := cut_fold l _ r h0 h1 h2 d1 fun z hz => hy z (by simp [hz])
    refine ⟨e1, fun n => ?_, ?_⟩
    · rw [List.foldl_cons, e2 n, d2 n, inR_cons, c2 n, inR_cons, inR_cons]
      simp only
      constructor
      · rintro (⟨k1, k2⟩ | k | k | k)
        · exact Or.inl ⟨Or.inr k1, k2⟩
        · exact Or.inl ⟨Or.inl (by omega), by omega⟩
        · exact Or.inl ⟨Or.inl (by omega), by omega⟩
        · exact Or.inr k
      · rintro (⟨k1 | k1, k2⟩ | k)
        · by_cases c : n < r.1
          · exact Or.inr (Or.inr (Or.inl (by omega)))
          · exact Or.inr (Or.inl (by omega))
        · exact Or.inl ⟨k1, k2⟩
        · exact Or.inr (Or.inr (Or.inr k))
    · have a := putL_length m (y.1, min y.2 (r.1 - 1))
      have b := putL_length (putL m (y.1, min y.2 (r.1 - 1))) (max y.1 (r.2 + 1), y.2)
      rw [List.foldl_cons, List.length_cons]
      omega

theorem cutS_cn (out : List Pr) (x : Pr) (h : Cn out) : Cn (cutS out x) ∧ (∀ n, InR (cutS out x) n ↔ InR out n ∧ ¬ InR [x] n) := by
  unfold cutS cutL
  by_cases c : (clipR x).1 ≤ (clipR x).2
  · rw [if_pos c]
    obtain ⟨c1, c2, _⟩ := cut_fold out [] (clipR x) (by simp only [clipR]; omega) (by simp only [clipR]; omega) c Cn.nil h.1
    refine ⟨c1, fun n => ?_⟩
    rw [c2 n, inR_one]
    constructor
    · rintro (⟨k1, k2⟩ | k)
      · refine ⟨k1, fun k3 => k2 ?_⟩
        simp only [clipR]; omega
      · exact absurd k (inR_nil _)
    · rintro ⟨k1, k2⟩
      refine Or.inl ⟨k1, fun k3 => k2 ?_⟩
      simp only [clipR] at k3
      have := k1.1
      have := k1.2.1
      omega
  · rw [if_neg c]
    refine ⟨h, fun n => ⟨fun k => ⟨k, fun k2 => ?_⟩, fun k => k.1⟩⟩
    rw [inR_one] at k2
    simp only [clipR] at c
    omega

theorem mn_fold : ∀ (b m : List Pr), Cn m → Cn (b.foldl cutS m) ∧ ∀ n, InR (b.foldl cutS m) n ↔ InR m n ∧ ¬ InR b n
  | [], m, h => ⟨h, fun n => by simp [inR_nil]⟩
  | x :: b, m, h => by
    obtain ⟨c1, c2⟩ := cutS_cn m x h
    obtain ⟨d1, d2⟩ := mn_fold b _ c1
    refine ⟨d1, fun n => ?_⟩
    rw [List.foldl_cons, d2 n, c2 n, inR_one, inR_cons]
    constructor
    · rintro ⟨⟨k1, k2⟩, k3⟩
      exact ⟨k1, fun k => k.elim k2 k3⟩
    · rintro ⟨k1, k2⟩
      exact ⟨⟨k1, fun k => k2 (Or.inl k)⟩, fun k => k2 (Or.inr k)⟩

theorem mnL_cn (a b : List Pr) : Cn (mnL a b) := (mn_fold b _ (nmL_cn a)).1
theorem mnL_in (a b : List Pr) (n : Int) : InR (mnL a b) n ↔ InR a n ∧ ¬ InR b n := by rw [mnL, (mn_fold b _ (nmL_cn a)).2 n, nmL_in]
theorem meL_cn (a b : List Pr) : Cn (meL a b) := mnL_cn _ _
theorem meL_in (a b : List Pr) (n : Int) : InR (meL a b) n ↔ InR a n ∧ InR b n := by
  rw [meL, mnL_in, mnL_in]
  constructor
  · rintro ⟨h1, h2⟩
    refine ⟨h1, ?_⟩
    by_cases c : InR b n
    · exact c
    · exact absurd ⟨h1, c⟩ h2
  · rintro ⟨h1, h2⟩
    exact ⟨h1, fun h => h.2 h2⟩
theorem unL_cn (a b : List Pr) : Cn (unL a b) := nmL_cn _
theorem unL_in (a b : List Pr) (n : Int) : InR (unL a b) n ↔ InR a n ∨ InR b n := by rw [unL, nmL_in, inR_append]
theorem unL_length (a b : List Pr) : (unL a b).length ≤ a.length + b.length := by
  have := nmL_length (a ++ b)
  rw [List.length_append] at this
  exact this

theorem eq_mnL {s a b : List Pr} (h : Cn s) (k : ∀ n, InR s n ↔ InR a n ∧ ¬ InR b n) : s = mnL a b := cn_ext _ _ h (mnL_cn a b) fun n => by rw [k n, mnL_in]
theorem eq_meL {s a b : List Pr} (h : Cn s) (k : ∀ n, InR s n ↔ InR a n ∧ InR b n) : s = meL a b := cn_ext _ _ h (meL_cn a b) fun n => by rw [k n, meL_in]

/-! ### Laws of sets -/

theorem un_comm (a b : List Pr) : unL a b = unL b a := cn_ext _ _ (unL_cn _ _) (unL_cn _ _) fun n => by rw [unL_in, unL_in]; exact Or.comm
theorem un_norm (a b : List Pr) : nmL (unL a b) = unL a b := nmL_of_cn (unL_cn a b)
theorem back_norm (a b : List Pr) : unL (mnL a b) (meL a b) = nmL a := eq_nmL (unL_cn _ _) fun n => by
  rw [unL_in, mnL_in, meL_in]
  constructor
  · rintro (h | h) <;> exact h.1
  · intro h
    by_cases c : InR b n
    · exact Or.inr ⟨h, c⟩
    · exact Or.inl ⟨h, c⟩
theorem mn_mn (a b c : List Pr) : mnL (mnL a b) c = mnL a (unL b c) := eq_mnL (mnL_cn _ _) fun n => by
  rw [mnL_in, mnL_in, unL_in]
  constructor
  · rintro ⟨⟨h1, h2⟩, h3⟩
    exact ⟨h1, fun h => h.elim h2 h3⟩
  · rintro ⟨h1, h2⟩
    exact ⟨⟨h1, fun h => h2 (Or.inl h)⟩, fun h => h2 (Or.inr h)⟩
theorem un_un (a b c : List Pr) : unL a (unL b c) = unL (unL a b) c := cn_ext _ _ (unL_cn _ _) (unL_cn _ _) fun n => by
  rw [unL_in, unL_in, unL_in, unL_in]; exact or_assoc.symm
theorem me_un (a b c : List Pr) : meL a (unL b c) = unL (meL a b) (meL a c) := cn_ext _ _ (meL_cn _ _) (unL_cn _ _) fun n => by
  rw [meL_in, unL_in, unL_in, meL_in, meL_in]
  constructor
  · rintro ⟨h1, h2 | h2⟩
    · exact Or.inl ⟨h1, h2⟩
    · exact Or.inr ⟨h1, h2⟩
  · rintro (⟨h1, h2⟩ | ⟨h1, h2⟩)
    · exact ⟨h1, Or.inl h2⟩
    · exact ⟨h1, Or.inr h2⟩
end

/-! Rn2 -/
section
/-! ### Norm -/

/-- What counts of each run. -/
def risL (l : List Pr) : List Pr := (l.map clipR).filter fun r => decide (r.1 ≤ r.2)

theorem risL_ok (l : List Pr) : ∀ r ∈ risL l, 0 ≤ r.1 ∧ r.1 ≤ r.2 ∧ r.2 ≤ 4294967295 := fun r hr => by
  obtain ⟨h1, h2⟩ := List.mem_filter.1 hr
  obtain ⟨x, _, rfl⟩ := List.mem_map.1 h1
  rw [decide_eq_true_eq] at h2
  simp only [clipR] at *
  omega

theorem risL_in (l : List Pr) (n : Int) : InR (risL l) n ↔ InR l n := by
  constructor
  · rintro ⟨h1, h2, r, hr, h3, h4⟩
    obtain ⟨hm, _⟩ := List.mem_filter.1 hr
    obtain ⟨x, hx, rfl⟩ := List.mem_map.1 hm
    simp only [clipR] at h3 h4
    exact ⟨h1, h2, x, hx, by omega, by omega⟩
  · rintro ⟨h1, h2, r, hr, h3, h4⟩
    refine ⟨h1, h2, clipR r, List.mem_filter.2 ⟨List.mem_map.2 ⟨r, hr, rfl⟩, ?_⟩, ?_, ?_⟩
    · rw [decide_eq_true_eq]; simp only [clipR]; omega
    · simp only [clipR]; omega
    · simp only [clipR]; omega

theorem risL_length (l : List Pr) : (risL l).length ≤ l.length := by
  have := List.length_filter_le (fun r => decide (r.1 ≤ r.2)) (l.map clipR)
  rw [List.length_map] at this
  exact this

theorem risL_snoc_yes (l : List Pr) (x : Pr) (h : (clipR x).1 ≤ (clipR x).2) : risL (l ++ [x]) = risL l ++ [clipR x] := by
  unfold risL; rw [List.map_append, List.filter_append]; simp [h]
theorem risL_snoc_no (l : List Pr) (x : Pr) (h : ¬ (clipR x).1 ≤ (clipR x).2) : risL (l ++ [x]) = risL l := by
  unfold risL; rw [List.map_append, List.filter_append]; simp [h]

/-- Sets of permuted lists. -/
theorem inR_perm {l m : List Pr} (h : ∀ x, x ∈ l ↔ x ∈ m) (n : Int) : InR l n ↔ InR m n := by
  constructor
  · rintro ⟨h1, h2, r, hr, h3⟩; exact ⟨h1, h2, r, (h r).1 hr, h3⟩
  · rintro ⟨h1, h2, r, hr, h3⟩; exact ⟨h1, h2, r, (h r).2 hr, h3⟩

/-- By where they begin, within the numbers, none empty. -/
def Ris (t : List Pr) : Prop := (∀ r ∈ t, 0 ≤ r.1 ∧ r.1 ≤ r.2 ∧ r.2 ≤ 4294967295) ∧ t.Pairwise fun r s => r.1 ≤ s.1

/-- What Norm has made of the first ones. -/
structure NmSt (done rest set : List Pr) : Prop where
  cn : Cn set
  same : ∀ n, InR set n ↔ InR done n
  le : ∀ r ∈ set, ∀ x ∈ rest, r.1 ≤ x.1
  len : set.length ≤ done.length

theorem NmSt.start (t : List Pr) : NmSt [] t [] := ⟨Cn.nil, fun _ => Iff.rfl, fun _ h => by simp at h, Nat.le_refl _⟩

theorem NmSt.join {done rest pre : List Pr} {a b : Int} {x : Pr} (h : NmSt done (x :: rest) (pre ++ [(a, b)])) (ht : Ris (x :: rest)) (h2 : x.1 ≤ b + 1) : NmSt (done ++ [x]) rest (pre ++ [(a, max b x.2)]) := by
  obtain ⟨c1, c2, c3⟩ := cn_snoc.1 h.cn
  simp only at c2 c3
  have hx := ht.1 x (by simp)
  have hax : a ≤ x.1 := h.le (a, b) (by simp) x (by simp)
  refine ⟨cn_snoc.2 ⟨c1, c2, by simp only; omega⟩, fun n => ?_, fun r hr y hy => ?_, ?_⟩
  · rw [inR_append done, ← h.same n, inR_append, inR_append, inR_one, inR_one, inR_one]
    simp only
    constructor
    · rintro (k | k)
      · exact Or.inl (Or.inl k)
      · by_cases c : n ≤ b
        · exact Or.inl (Or.inr (by omega))
        · exact Or.inr (by omega)
    · rintro ((k | k) | k)
      · exact Or.inl k
      · exact Or.inr (by omega)
      · exact Or.inr (by omega)
  · rcases List.mem_append.1 hr with hr | hr
    · exact h.le r (by simp [hr]) y (by simp [hy])
    · rw [List.mem_singleton.1 hr]
      exact h.le (a, b) (by simp) y (by simp [hy])
  · have := h.len
    simp only [List.length_append, List.length_cons, List.length_nil] at *
    omega

theorem NmSt.add {done rest set : List Pr} {x : Pr} (h : NmSt done (x :: rest) set) (ht : Ris (x :: rest)) (h2 : ∀ r ∈ set, r.2 + 1 < x.1) : NmSt (done ++ [x]) rest (set ++ [x]) := by
  refine ⟨cn_snoc.2 ⟨h.cn, h2, ht.1 x (by simp)⟩, fun n => ?_, fun r hr y hy => ?_, ?_⟩
  · rw [inR_append, inR_append, h.same n]
  · rcases List.mem_append.1 hr with hr | hr
    · exact h.le r hr y (by simp [hy])
    · rw [List.mem_singleton.1 hr]
      exact (List.pairwise_cons.1 ht.2).1 y hy
  · have := h.len
    simp only [List.length_append, List.length_cons, List.length_nil] at *
    omega

/-- Behind the last run's end is behind all. -/
theorem Cn.last_lt {pre : List Pr} {r : Pr} (h : Cn (pre ++ [r])) {m : Int} (hm : r.2 + 1 < m) : ∀ s ∈ pre ++ [r], s.2 + 1 < m := fun s hs => by
  obtain ⟨_, c2, c3⟩ := cn_snoc.1 h
  rcases List.mem_append.1 hs with hs | hs
  · have := c2 s hs; omega
  · rw [List.mem_singleton.1 hs]; exact hm

theorem Ris.tail {x : Pr} {t : List Pr} (h : Ris (x :: t)) : Ris t := ⟨fun r hr => h.1 r (by simp [hr]), (List.pairwise_cons.1 h.2).2⟩

/-! ### rest -/

def restGo (f : Int) : List Pr → List Pr
  | [] => if f ≤ 4294967295 then [(f, 4294967295)] else []
  | r :: l => if f < r.1 then (f, r.1 - 1) :: restGo (r.2 + 1) l else restGo (r.2 + 1) l

theorem restGo_ok : ∀ (l : List Pr) (f : Int), 0 ≤ f → Cn l → (∀ r ∈ l, f ≤ r.1) → Cn (restGo f l) ∧ (∀ n, InR (restGo f l) n ↔ f ≤ n ∧ n ≤ 4294967295 ∧ ¬ InR l n) ∧ (∀ z ∈ restGo f l, f ≤ z.1) ∧ (restGo f l).length ≤ l.length + 1
  | [], f, h0, _, _ => by
    unfold restGo
    split
    · refine ⟨cn_cons.2 ⟨⟨h0, by assumption, Int.le_refl _⟩, fun _ h => by simp at h, Cn.nil⟩, fun n => ?_, fun z hz => ?_, by simp⟩
      · rw [inR_one]; simp only
        constructor
        · intro h; exact ⟨h.2.2.1, h.2.1, inR_nil n⟩
        · intro h; omega
      · rw [List.mem_singleton.1 hz]; exact Int.le_refl _
    · refine ⟨Cn.nil, fun n => ⟨fun h => absurd h (inR_nil n), fun h => by omega⟩, fun z hz => by simp at hz, by simp⟩
  | r :: l, f, h0, hl, hf => by
    obtain ⟨h2, h3, h4⟩ := cn_cons.1 hl
    have hf1 := hf r (by simp)
    obtain ⟨c1, c2, c3, c4⟩ := restGo_ok l (r.2 + 1) (by omega) h4 fun s hs => by have := h3 s hs; omega
    have hin : ∀ n, InR l n → r.2 + 1 < n := fun n hn => hl.tail_gt hn
    unfold restGo
    split
    · refine ⟨cn_cons.2 ⟨by simp only; omega, fun s hs => ?_, c1⟩, fun n => ?_, fun z hz => ?_, by simp only [List.length_cons]; omega⟩
      · have := c3 s hs; simp only; omega
      · rw [inR_cons, c2 n, inR_cons]
        simp only
        constructor
        · rintro (h | ⟨k1, k2, k3⟩)
          · refine ⟨h.2.2.1, h.2.1, ?_⟩
            rintro (k | k)
            · omega
            · have := hin n k; omega
          · refine ⟨by omega, k2, ?_⟩
            rintro (k | k)
            · omega
            · exact k3 k
        · rintro ⟨k1, k2, k3⟩
          by_cases c : n < r.1
          · exact Or.inl (by omega)
          · refine Or.inr ⟨?_, k2, fun k => k3 (Or.inr k)⟩
            by_cases d : n ≤ r.2
            · exact absurd (Or.inl ⟨by omega, by omega, by omega, d⟩) k3
            · omega
      · rcases List.mem_cons.1 hz with rfl | hz
        · exact Int.le_refl _
        · have := c3 z hz; omega
    · refine ⟨c1, fun n => ?_, fun z hz => by have := c3 z hz; omega, by simp only [List.length_cons]; omega⟩
      rw [c2 n, inR_cons]
      constructor
      · rintro ⟨k1, k2, k3⟩
        refine ⟨by omega, k2, ?_⟩
        rintro (k | k)
        · omega
        · exact k3 k
      · rintro ⟨k1, k2, k3⟩
        refine ⟨?_, k2, fun k => k3 (Or.inr k)⟩
        by_cases d : n ≤ r.2
        · exact absurd (Or.inl ⟨by omega, by omega, by omega, d⟩) k3
        · omega

def restRL (s : List Pr) : List Pr := restGo 0 s
theorem restL_ok (s : List Pr) (h : Cn s) : Cn (restRL s) ∧ (∀ n, InR (restRL s) n ↔ 0 ≤ n ∧ n ≤ 4294967295 ∧ ¬ InR s n) ∧ (restRL s).length ≤ s.length + 1 := by
  obtain ⟨c1, c2, _, c4⟩ := restGo_ok s 0 (Int.le_refl _) h fun r hr => (h.1 r hr).1
  exact ⟨c1, c2, c4⟩

/-! ### meet -/

def mr (x y : Pr) : List Pr := if max x.1 y.1 ≤ min x.2 y.2 then [(max x.1 y.1, min x.2 y.2)] else []

structure MeSt (a b a' b' both : List Pr) : Prop where
  ca : Cn a'
  cb : Cn b'
  cn : Cn both
  same : ∀ n, (InR a n ∧ InR b n) ↔ InR both n ∨ (InR a' n ∧ InR b' n)
  lt : ∀ r ∈ both, ∀ n, InR a' n → InR b' n → r.2 + 1 < n
  len : both.length + a'.length + b'.length ≤ a.length + b.length

theorem MeSt.start {a b : List Pr} (ha : Cn a) (hb : Cn b) : MeSt a b a b [] := ⟨ha, hb, Cn.nil, fun n => by simp [inR_nil], fun _ h => by simp at h, by simp⟩

theorem inR_mr (x y : Pr) (n : Int) : InR (mr x y) n ↔ 0 ≤ n ∧ n ≤ 4294967295 ∧ x.1 ≤ n ∧ n ≤ x.2 ∧ y.1 ≤ n ∧ n ≤ y.2 := by
  unfold mr
  split
  · rw [inR_one]; simp only; omega
  · constructor
    · intro h; exact absurd h (inR_nil n)
    · intro h; omega

theorem mr_cn {both : List Pr} {x y : Pr} (h : Cn both) (hx : 0 ≤ x.1 ∧ x.1 ≤ x.2 ∧ x.2 ≤ 4294967295) (hy : 0 ≤ y.1 ∧ y.1 ≤ y.2 ∧ y.2 ≤ 4294967295) (hlt : ∀ r ∈ both, ∀ n, x.1 ≤ n → n ≤ x.2 → y.1 ≤ n → n ≤ y.2 → r.2 + 1 < n) : Cn (both ++ mr x y) := by
  unfold mr
  split
  · refine cn_snoc.2 ⟨h, fun s hs => ?_, by simp only; omega⟩
    exact hlt s hs (max x.1 y.1) (by omega) (by omega) (by omega) (by omega)
  · rw [List.append_nil]; exact h

theorem mem_mr {x y r : Pr} (h : r ∈ mr x y) : r.2 = min x.2 y.2 := by
  unfold mr at h
  split at h
  · rw [List.mem_singleton.1 h]
  · simp at h

theorem mr_length (x y : Pr) : (mr x y).length ≤ 1 := by unfold mr; split <;> simp

theorem MeSt.left {a b a' b' both : List Pr} {x y : Pr} (h : MeSt a b (x :: a') (y :: b') both) (hl : x.2 < y.2) : MeSt a b a' (y :: b') (both ++ mr x y) := by
  obtain ⟨a1, a2, a3⟩ := cn_cons.1 h.ca
  obtain ⟨b1, b2, b3⟩ := cn_cons.1 h.cb
  refine ⟨a3, h.cb, mr_cn h.cn a1 b1 fun r hr n k1 k2 k3 k4 => h.lt r hr n (h.ca.head_in k1 k2) (h.cb.head_in k3 k4), fun n => ?_, fun r hr n k1 k2 => ?_, ?_⟩
  · rw [h.same n, inR_append, inR_mr, inR_cons x a' n, inR_cons y b' n]
    constructor
    · rintro (k | ⟨k1 | k1, k2 | k2⟩)
      · exact Or.inl (Or.inl k)
      · exact Or.inl (Or.inr (by omega))
      · have := h.cb.tail_gt k2; omega
      · exact Or.inr ⟨k1, Or.inl k2⟩
      · exact Or.inr ⟨k1, Or.inr k2⟩
    · rintro ((k | k) | ⟨k1, k2⟩)
      · exact Or.inl k
      · exact Or.inr ⟨Or.inl (by omega), Or.inl (by omega)⟩
      · exact Or.inr ⟨Or.inr k1, k2⟩
  · rcases List.mem_append.1 hr with hr | hr
    · exact h.lt r hr n ((inR_cons x a' n).2 (Or.inr k1)) k2
    · have e := mem_mr hr
      have := h.ca.tail_gt k1
      omega
  · have := h.len
    have := mr_length x y
    simp only [List.length_append, List.length_cons] at *
    omega

theorem MeSt.right {a b a' b' both : List Pr} {x y : Pr} (h : MeSt a b (x :: a') (y :: b') both) (hl : ¬ x.2 < y.2) : MeSt a b (x :: a') b' (both ++ mr x y) := by
  obtain ⟨a1, a2, a3⟩ := cn_cons.1 h.ca
  obtain ⟨b1, b2, b3⟩ := cn_cons.1 h.cb
  refine ⟨h.ca, b3, mr_cn h.cn a1 b1 fun r hr n k1 k2 k3 k4 => h.lt r hr n (h.ca.head_in k1 k2) (h.cb.head_in k3 k4), fun n => ?_, fun r hr n k1 k2 => ?_, ?_⟩
  · rw [h.same n, inR_append, inR_mr, inR_cons x a' n, inR_cons y b' n]
    constructor
    · rintro (k | ⟨k1 | k1, k2 | k2⟩)
      · exact Or.inl (Or.inl k)
      · exact Or.inl (Or.inr (by omega))
      · exact Or.inr ⟨Or.inl k1, k2⟩
      · have := h.ca.tail_gt k1; omega
      · exact Or.inr ⟨Or.inr k1, k2⟩
    · rintro ((k | k) | ⟨k1, k2⟩)
      · exact Or.inl k
      · exact Or.inr ⟨Or.inl (by omega), Or.inl (by omega)⟩
      · exact Or.inr ⟨k1, Or.inr k2⟩
  · rcases List.mem_append.1 hr with hr | hr
    · exact h.lt r hr n k1 ((inR_cons y b' n).2 (Or.inr k2))
    · have e := mem_mr hr
      have := h.cb.tail_gt k2
      omega
  · have := h.len
    have := mr_length x y
    simp only [List.length_append, List.length_cons] at *
    omega

theorem MeSt.fin {a b a' b' both : List Pr} (h : MeSt a b a' b' both) (he : a' = [] ∨ b' = []) : both = meL a b ∧ both.length ≤ a.length + b.length := by
  refine ⟨eq_meL h.cn fun n => ?_, by have := h.len; omega⟩
  rw [h.same n]
  constructor
  · exact Or.inl
  · rintro (k | ⟨k1, k2⟩)
    · exact k
    · rcases he with rfl | rfl
      · exact absurd k1 (inR_nil n)
      · exact absurd k2 (inR_nil n)

theorem MeSt.ends : ∀ (k : Nat) (a b a' b' both : List Pr), a'.length + b'.length ≤ k → MeSt a b a' b' both → (meL a b).length ≤ a.length + b.length
  | _, a, b, [], b', both, _, h => by obtain ⟨e, l⟩ := h.fin (Or.inl rfl); rw [← e]; exact l
  | _, a, b, x :: a', [], both, _, h => by obtain ⟨e, l⟩ := h.fin (Or.inr rfl); rw [← e]; exact l
  | 0, _, _, x :: a', y :: b', _, hk, _ => by simp at hk
  | k + 1, a, b, x :: a', y :: b', both, hk, h => by
    by_cases c : x.2 < y.2
    · exact MeSt.ends k a b a' (y :: b') _ (by simp only [List.length_cons] at *; omega) (h.left c)
    · exact MeSt.ends k a b (x :: a') b' _ (by simp only [List.length_cons] at *; omega) (h.right c)

theorem meL_nm (a b : List Pr) : meL (nmL a) (nmL b) = meL a b := eq_meL (meL_cn _ _) fun n => by rw [meL_in, nmL_in, nmL_in]
theorem meL_rest (a b : List Pr) : meL (nmL a) (restRL (nmL b)) = mnL a b := eq_mnL (meL_cn _ _) fun n => by
  rw [meL_in, nmL_in, (restL_ok _ (nmL_cn b)).2.1 n, nmL_in]
  constructor
  · rintro ⟨h1, _, _, h2⟩; exact ⟨h1, h2⟩
  · rintro ⟨h1, h2⟩; exact ⟨h1, h1.1, h1.2.1, h2⟩

theorem meL_length (a b : List Pr) : (meL a b).length ≤ a.length + b.length := by
  rw [← meL_nm]
  have := MeSt.ends _ _ _ _ _ _ (Nat.le_refl _) (MeSt.start (nmL_cn a) (nmL_cn b))
  have := nmL_length a
  have := nmL_length b
  omega
theorem mnL_length (a b : List Pr) : (mnL a b).length ≤ a.length + b.length + 1 := by
  rw [← meL_rest]
  have := MeSt.ends _ _ _ _ _ _ (Nat.le_refl _) (MeSt.start (nmL_cn a) (restL_ok _ (nmL_cn b)).1)
  have := (restL_ok _ (nmL_cn b)).2.2
  have := nmL_length a
  have := nmL_length b
  omega

/-! ### How many -/

theorem cnt_fold (s : List Pr) : ∀ n : Int, s.foldl (fun n r => n + r.2 - r.1 + 1) n = n + cntL s := by
  unfold cntL
  induction s with
  | nil => intro n; simp
  | cons r s ih => intro n; rw [List.foldl_cons, List.foldl_cons, ih, ih (0 + r.2 - r.1 + 1)]; omega

theorem cnt_nil : cntL [] = 0 := rfl
theorem cnt_cons (r : Pr) (s : List Pr) : cntL (r :: s) = (r.2 - r.1 + 1) + cntL s := by
  rw [cntL, List.foldl_cons, cnt_fold]; omega
theorem cnt_snoc (s : List Pr) (r : Pr) : cntL (s ++ [r]) = cntL s + r.2 - r.1 + 1 := by
  rw [cntL, List.foldl_append]; rfl

theorem Cn.take {s : List Pr} (h : Cn s) (i : Nat) : Cn (s.take i) := ⟨fun r hr => h.1 r (List.mem_of_mem_take hr), h.2.sublist (List.take_sublist i s)⟩

theorem cnt_bound : ∀ (s : List Pr) (f : Int), Cn s → (∀ r ∈ s, f ≤ r.1) → f ≤ 4294967296 → 0 ≤ cntL s ∧ cntL s ≤ 4294967296 - f
  | [], f, _, _, hf => by rw [cnt_nil]; omega
  | r :: s, f, h, hr, hf => by
    obtain ⟨h1, h2, h3⟩ := cn_cons.1 h
    have := hr r (by simp)
    have := cnt_bound s (r.2 + 1) h3 (fun z hz => by have := h2 z hz; omega) (by omega)
    rw [cnt_cons]
    omega

theorem cnt_le {s : List Pr} (h : Cn s) : 0 ≤ cntL s ∧ cntL s ≤ 4294967296 := by
  have := cnt_bound s 0 h (fun r hr => (h.1 r hr).1) (by omega)
  omega

theorem cnt_pos {s : List Pr} (h : Cn s) : 0 < cntL s ↔ s ≠ [] := by
  cases s with
  | nil => simp [cnt_nil]
  | cons r s =>
    obtain ⟨h1, h2, h3⟩ := cn_cons.1 h
    have := cnt_le h3
    rw [cnt_cons]
    simp
    omega

theorem countP_or {α : Type} (p q : α → Bool) (l : List α) : l.countP (fun x => p x || q x) + l.countP (fun x => p x && q x) = l.countP p + l.countP q := by
  induction l with
  | nil => simp
  | cons x l ih =>
    simp only [List.countP_cons]
    cases p x <;> cases q x <;> simp at * <;> omega

theorem countP_between (a b : Nat) (hab : a ≤ b) : ∀ B : Nat, (List.range B).countP (fun k => decide (a ≤ k ∧ k ≤ b)) = min (b + 1) B - min a B
  | 0 => by simp
  | B + 1 => by
    rw [List.range_succ, List.countP_append, countP_between a b hab B]
    by_cases c : a ≤ B ∧ B ≤ b
    · simp [c]; omega
    · simp [c]; omega

theorem cnt_eq (B : Nat) (hB : (B : Int) = 4294967296) : ∀ s : List Pr, Cn s → cntL s = ((List.range B).countP (fun k : Nat => hasB s (k : Int)) : Nat)
  | [], _ => by simp [cnt_nil, hasB]
  | r :: s, h => by
    obtain ⟨h1, h2, h3⟩ := cn_cons.1 h
    have ih := cnt_eq B hB s h3
    have e0 := countP_or (fun k : Nat => decide (r.1.toNat ≤ k ∧ k ≤ r.2.toNat)) (fun k : Nat => hasB s (k : Int)) (List.range B)
    have e1 := countP_between r.1.toNat r.2.toNat (by omega) B
    have e2 : (List.range B).countP (fun k : Nat => decide (r.1.toNat ≤ k ∧ k ≤ r.2.toNat) && hasB s (k : Int)) = 0 := by
      rw [List.countP_eq_zero]
      intro k _ hk
      simp only [Bool.and_eq_true, decide_eq_true_eq, hasB_iff] at hk
      have := h.tail_gt hk.2
      omega
    have e3 : (List.range B).countP (fun k : Nat => hasB (r :: s) (k : Int)) = (List.range B).countP (fun k : Nat => decide (r.1.toNat ≤ k ∧ k ≤ r.2.toNat) || hasB s (k : Int)) := by
      apply List.countP_congr
      intro k hk
      have hkB : k < B := List.mem_range.1 hk
      simp only [Bool.or_eq_true, decide_eq_true_eq, hasB_iff]
      rw [inR_cons]
      constructor
      · rintro (k1 | k1)
        · exact Or.inl (by omega)
        · exact Or.inr k1
      · rintro (k1 | k1)
        · exact Or.inl (by omega)
        · exact Or.inr k1
    rw [cnt_cons, ih, e3]
    omega

theorem cnt_un_me (a b : List Pr) : cntL (unL a b) + cntL (meL a b) = cntL (nmL a) + cntL (nmL b) := by
  obtain ⟨B, hB⟩ : ∃ B : Nat, (B : Int) = 4294967296 := ⟨4294967296, rfl⟩
  rw [cnt_eq B hB _ (unL_cn a b), cnt_eq B hB _ (meL_cn a b), cnt_eq B hB _ (nmL_cn a), cnt_eq B hB _ (nmL_cn b)]
  have e := countP_or (fun k : Nat => hasB a (k : Int)) (fun k : Nat => hasB b (k : Int)) (List.range B)
  have c1 : (fun k : Nat => hasB (unL a b) (k : Int)) = fun k : Nat => hasB a (k : Int) || hasB b (k : Int) := by
    funext k; exact hasB_eq (by rw [unL_in, Bool.or_eq_true, hasB_iff, hasB_iff])
  have c2 : (fun k : Nat => hasB (meL a b) (k : Int)) = fun k : Nat => hasB a (k : Int) && hasB b (k : Int) := by
    funext k; exact hasB_eq (by rw [meL_in, Bool.and_eq_true, hasB_iff, hasB_iff])
  have c3 : (fun k : Nat => hasB (nmL a) (k : Int)) = fun k : Nat => hasB a (k : Int) := by
    funext k; exact hasB_eq (by rw [nmL_in, hasB_iff])
  have c4 : (fun k : Nat => hasB (nmL b) (k : Int)) = fun k : Nat => hasB b (k : Int) := by
    funext k; exact hasB_eq (by rw [nmL_in, hasB_iff])
  rw [c1, c2, c3, c4]
  omega

/-! ### The least number, and a set without it -/

def fstN : List Pr → Int
  | [] => 0
  | r :: _ => r.1
def fstB (s : List Pr) : Bool := !s.isEmpty

def dropF : List Pr → List Pr
  | [] => []
  | r :: l => if r.1 < r.2 then (r.1 + 1, r.2) :: l else l

theorem dropF_cons (r : Pr) (l : List Pr) : dropF (r :: l) = if r.1 < r.2 then (r.1 + 1, r.2) :: l else l := rfl

theorem dropF_ok {r : Pr} {l : List Pr} (h : Cn (r :: l)) : mnL (r :: l) [(r.1, r.1)] = dropF (r :: l) ∧ Cn (dropF (r :: l)) ∧ cntL (dropF (r :: l)) = cntL (r :: l) - 1 ∧ (dropF (r :: l)).length ≤ (r :: l).length ∧ ∀ n, InR (dropF (r :: l)) n ↔ InR (r :: l) n ∧ r.1 < n := by
  obtain ⟨h1, h2, h3⟩ := cn_cons.1 h
  have hc : Cn (dropF (r :: l)) := by
    rw [dropF_cons]
    split
    · exact cn_cons.2 ⟨by simp only; omega, h2, h3⟩
    · exact h3
  have hi : ∀ n, InR (dropF (r :: l)) n ↔ InR (r :: l) n ∧ r.1 < n := fun n => by
    rw [dropF_cons]
    split
    · rw [inR_cons, inR_cons]; simp only
      constructor
      · rintro (k | k)
        · exact ⟨Or.inl (by omega), by omega⟩
        · have := h.tail_gt k
          exact ⟨Or.inr k, by omega⟩
      · rintro ⟨k | k, k2⟩
        · exact Or.inl (by omega)
        · exact Or.inr k
    · rw [inR_cons]
      constructor
      · intro k
        have := h.tail_gt k
        exact ⟨Or.inr k, by omega⟩
      · rintro ⟨k | k, k2⟩
        · omega
        · exact k
  refine ⟨(eq_mnL hc fun n => ?_).symm, hc, ?_, ?_, hi⟩
  · rw [hi n, inR_one]
    constructor
    · rintro ⟨k1, k2⟩
      exact ⟨k1, by simp only; omega⟩
    · rintro ⟨k1, k2⟩
      have := h.head_le k1
      have := k1.1
      have := k1.2.1
      simp only at k2
      exact ⟨k1, by omega⟩
  · rw [dropF_cons]
    split
    · rw [cnt_cons, cnt_cons]; simp only; omega
    · rw [cnt_cons]; omega
  · rw [dropF_cons]
    split <;> simp

/-! ### All numbers of a set -/

def uptoN (a : Int) (k : Nat) : List Int := (List.range k).map fun j : Nat => a + (j : Int)
theorem uptoN_succ (a : Int) (k : Nat) : uptoN a (k + 1) = uptoN a k ++ [a + (k : Int)] := by simp [uptoN, List.range_succ]
theorem uptoN_length (a : Int) (k : Nat) : (uptoN a k).length = k := by simp [uptoN]

def numsL (s : List Pr) : List Int := s.flatMap fun r => uptoN r.1 (r.2 - r.1 + 1).toNat
theorem numsL_nil : numsL [] = [] := rfl
theorem numsL_cons (r : Pr) (s : List Pr) : numsL (r :: s) = uptoN r.1 (r.2 - r.1 + 1).toNat ++ numsL s := by simp [numsL]
theorem numsL_snoc (s : List Pr) (r : Pr) : numsL (s ++ [r]) = numsL s ++ uptoN r.1 (r.2 - r.1 + 1).toNat := by simp [numsL]

theorem numsL_length : ∀ (s : List Pr), Cn s → ((numsL s).length : Int) = cntL s
  | [], _ => rfl
  | r :: s, h => by
    obtain ⟨h1, _, h3⟩ := cn_cons.1 h
    have ih := numsL_length s h3
    rw [numsL_cons, List.length_append, uptoN_length, cnt_cons]
    omega
end

/-! RnMem -/
section
open Go.Shelf Go.RowKit Go.Lib Go.Sort

def encP (x : Pr) : List Value := [.int .i64 x.1, .int .i64 x.2]

/-- Draws and new blocks alone. -/
def GR (w w' : World) : Prop := ∃ q os', w' = grow (w.drewN q) os'

theorem GR.refl (w : World) : GR w w := ⟨0, #[], by rw [grow_empty]; rfl⟩

theorem GR.drew {w w' : World} (h : GR w w') : GR w w'.drew := by
  obtain ⟨q, os, rfl⟩ := h
  exact ⟨q + 1, os, rfl⟩

theorem GR.alloc {w w' : World} (h : GR w w') (o : Obj) : GR w (w'.alloc o) := by
  obtain ⟨q, os, rfl⟩ := h
  exact ⟨q, os ++ #[o], by rw [alloc_eq_grow, grow_grow]⟩

theorem GR.trans {u v w : World} (h : GR u v) (k : GR v w) : GR u w := by
  obtain ⟨q, os, rfl⟩ := h
  obtain ⟨p, os', rfl⟩ := k
  exact ⟨q + p, os ++ os', by show grow (grow ((u.drewN q).drewN p) os) os' = _; rw [grow_grow, World.drewN_drewN]⟩

theorem GR.below {w w' : World} (h : GR w w') : Below w.heap.size w w' := by
  obtain ⟨q, os, rfl⟩ := h
  exact ⟨rfl, rfl, rfl, by rw [size_grow]; exact Nat.le_add_right _ _, fun k hk => heap_grow_old _ _ (by simpa using hk)⟩

theorem new0 (W : World) (x y : Value) (t : TypeId) (n : Nat) (h : n = W.heap.size) : (W.alloc (.cells #[x, y] t)).cell? ⟨n, 0, none⟩ = some x := by subst h; simp

theorem new1 (W : World) (x y : Value) (t : TypeId) (n : Nat) (h : n = W.heap.size) : (W.alloc (.cells #[x, y] t)).cell? ⟨n, 1, none⟩ = some y := by subst h; simp

section
variable {α : Type} [Inhabited α]

def CellsK (enc : α → List Value) (k : Nat) (w : World) (b off : Nat) (l : List α) : Prop := ∀ t, t < l.length * k → w.cell? ⟨b, off + t, none⟩ = some (flatK enc k l.toArray)[t]!

/-- A slice that can be read. -/
def Row (enc : α → List Value) (k : Nat) (w : World) (v : Value) (l : List α) : Prop :=
  ∃ ao cap, v = .slice ao l.length cap ∧ l.length ≤ cap ∧ (ao = none → cap = 0) ∧ (l ≠ [] → ∃ b off, ao = some ⟨b, off, none⟩ ∧ b < w.heap.size ∧ CellsK enc k w b off l)

/-- A slice in memory newer than 'base', that can be written. -/
def Own (enc : α → List Value) (k base : Nat) (w : World) (v : Value) (l : List α) : Prop :=
  ∃ ao cap, v = .slice ao l.length cap ∧ l.length ≤ cap ∧ (ao = none → cap = 0) ∧ (l ≠ [] → ∃ b off, ao = some ⟨b, off, none⟩ ∧ base ≤ b ∧ b < w.heap.size ∧ HoldsK enc k w b off l.toArray)

variable {enc : α → List Value} {k base : Nat} {w w' : World} {v : Value} {l : List α}

theorem cells_of_holds {b off : Nat} (h : HoldsK enc k w b off l.toArray) : CellsK enc k w b off l := fun t ht => (h t (by simpa using ht)).1

theorem Own.row (h : Own enc k base w v l) : Row enc k w v l := by
  obtain ⟨ao, cap, e, h1, h2, h3⟩ := h
  refine ⟨ao, cap, e, h1, h2, fun hne => ?_⟩
  obtain ⟨b, off, e2, _, hb, hH⟩ := h3 hne
  exact ⟨b, off, e2, hb, cells_of_holds hH⟩

theorem Row.below (h : Row enc k w v l) (hb : Below w.heap.size w w') : Row enc k w' v l := by
  obtain ⟨ao, cap, e, h1, h2, h3⟩ := h
  refine ⟨ao, cap, e, h1, h2, fun hne => ?_⟩
  obtain ⟨b, off, e2, hlt, hH⟩ := h3 hne
  exact ⟨b, off, e2, Nat.lt_of_lt_of_le hlt hb.size, fun t ht => (hb.cell (p := ⟨b, off + t, none⟩) hlt).trans (hH t ht)⟩

theorem Own.below (h : Own enc k base w v l) (hb : Below w.heap.size w w') : Own enc k base w' v l := by
  obtain ⟨ao, cap, e, h1, h2, h3⟩ := h
  refine ⟨ao, cap, e, h1, h2, fun hne => ?_⟩
  obtain ⟨b, off, e2, hba, hlt, hH⟩ := h3 hne
  exact ⟨b, off, e2, hba, Nat.lt_of_lt_of_le hlt hb.size, fun t ht => ⟨(hb.cell (p := ⟨b, off + t, none⟩) hlt).trans (hH t ht).1, (hb.frozen (p := ⟨b, off + t, none⟩) hlt).trans (hH t ht).2⟩⟩

theorem Own.mono {base' : Nat} (h : Own enc k base w v l) (hb : base' ≤ base) : Own enc k base' w v l := by
  obtain ⟨ao, cap, e, h1, h2, h3⟩ := h
  refine ⟨ao, cap, e, h1, h2, fun hne => ?_⟩
  obtain ⟨b, off, e2, hba, r⟩ := h3 hne
  exact ⟨b, off, e2, Nat.le_trans hb hba, r⟩

theorem Own.nil : Own enc k base w (.slice none 0 0) ([] : List α) := ⟨none, 0, rfl, Nat.le_refl _, fun _ => rfl, fun h => absurd rfl h⟩

/-- What append's laws own. -/
theorem holds_of_owns {e : TypeId} {g n : Nat} {cur : Array Value} (hb : w.heap[g]? = some (.cells cur e (0, 0))) (hn : l.length = n) (hs : n * k ≤ cur.size) (ht : cur.toList.take (n * k) = (flatK enc k l.toArray).toList) : HoldsK enc k w g 0 l.toArray := by
  intro t htt
  have ht' : t < n * k := by rw [← hn]; simpa using htt
  refine ⟨?_, by simp [World.frozen?, hb]⟩
  have h1 : (cur.toList.take (n * k))[t]? = (flatK enc k l.toArray).toList[t]? := by rw [ht]
  rw [List.getElem?_take_of_lt ht', List.getElem?_eq_getElem (by simpa using (by omega : t < cur.size)), List.getElem?_eq_getElem (by rw [Array.length_toList]; exact htt)] at h1
  simp only [World.cell?, hb, Nat.zero_add]
  rw [getElem!_pos _ t htt]
  have h2 := Option.some.inj h1
  simp only [Array.getElem_toList] at h2
  rw [Array.getElem?_eq_getElem (by omega), h2]
  rfl

theorem own_of_owns {e : TypeId} {n : Nat} (hk : 0 < k) (h : w.ownsRow base e k v n (flatK enc k l.toArray).toList) : Own enc k base w v l := by
  obtain ⟨h0, h1⟩ := h
  have hn : l.length = n := by
    have : l.length * k = n * k := by simpa using h0
    exact Nat.eq_of_mul_eq_mul_right hk this
  rcases h1 with ⟨rfl, rfl⟩ | ⟨g, cap, cur, rfl, hb, hh, hc, hm, hs, ht⟩
  · obtain rfl : l = [] := List.length_eq_zero_iff.1 hn
    exact Own.nil
  · subst hn
    refine ⟨some ⟨g, 0, none⟩, cap, rfl, hc, (fun h => by cases h), fun hne => ⟨g, 0, rfl, hb, (Array.getElem?_eq_some_iff.1 hh).1, holds_of_owns hh rfl (by rw [hs]; exact Nat.mul_le_mul_right k hc) ht⟩⟩

theorem flatK_oneCell (h1 : ∀ x, ∀ v ∈ enc x, v.oneCell' = true) (hk : ∀ x, (enc x).length = k) : ∀ u ∈ (flatK enc k l.toArray).toList, u.oneCell' = true := fun u hu => by
  obtain ⟨t, ht, rfl⟩ := List.getElem_of_mem hu
  have ht' : t < l.length * k := by simpa using ht
  have hk0 : 0 < k := by
    rcases Nat.eq_zero_or_pos k with h | h
    · subst h; omega
    · exact h
  have e := get_flatK enc k l.toArray t (by simpa using ht')
  rw [getElem!_pos _ t (by simpa using ht')] at e
  rw [Array.getElem_toList, e]
  refine h1 l.toArray[t / k]! _ ?_
  rw [getElem!_pos (enc l.toArray[t / k]!) (t % k) (by rw [hk]; exact Nat.mod_lt _ hk0)]
  exact List.getElem_mem _

end

theorem encP_len (x : Pr) : (encP x).length = 2 := rfl

theorem encP_one (x : Pr) : ∀ v ∈ encP x, v.oneCell' = true := fun v hv => by simp [encP] at hv; rcases hv with rfl | rfl <;> rfl

theorem infoPair : (Tryz.prog.info? 69).map (fun i => (i.zero, i.size, i.bytes)) = some (some (.agg #[.int .i64 0, .int .i64 0]), 2, 16) := by kernel_rfl

section
variable {α : Type} [Inhabited α]

theorem bang_list (d : Array α) (i : Nat) : d[i]! = d.toList[i]! := by
  by_cases h : i < d.size
  · rw [getElem!_pos d i h, getElem!_pos d.toList i (by simpa using h)]; simp
  · rw [getElem!_neg d i h, getElem!_neg d.toList i (by simpa using h)]

theorem list_bang_ext {l l' : List α} (hs : l.length = l'.length) (h : ∀ i, i < l.length → l[i]! = l'[i]!) : l = l' := by
  apply List.ext_getElem hs
  intro i h1 h2
  have := h i h1
  rwa [getElem!_pos l i h1, getElem!_pos l' i h2] at this

theorem app_left (l r : List α) (i : Nat) (h : i < l.length) : (l ++ r)[i]! = l[i]! := by
  rw [getElem!_pos l i h, getElem!_pos (l ++ r) i (by simp; omega)]
  exact List.getElem_append_left h

theorem app_right (l r : List α) (i : Nat) : (l ++ r)[l.length + i]! = r[i]! := by
  by_cases h : i < r.length
  · rw [getElem!_pos r i h, getElem!_pos (l ++ r) _ (by simp; omega)]
    simp
  · rw [getElem!_neg r i h, getElem!_neg (l ++ r) _ (by simp; omega)]

theorem ownsRow_grown {W : World} {base : Nat} {e : TypeId} {k : Nat} {v : Value} {n : Nat} {xs : List Value} (h : W.ownsRow base e k v n xs) (m : Nat) (os : Array Obj) : (grow (W.drewN m) os).ownsRow base e k v n xs := by
  obtain ⟨h1, h2⟩ := h
  refine ⟨h1, ?_⟩
  rcases h2 with h2 | ⟨g, cap, cur, hv, hg, hh, r⟩
  · exact Or.inl h2
  · exact Or.inr ⟨g, cap, cur, hv, hg, by rw [heap_grow_old _ _ (by exact (Array.getElem?_eq_some_iff.1 hh).1)]; exact hh, r⟩

theorem flatK_snoc (enc : α → List Value) (k : Nat) (hk : ∀ x, (enc x).length = k) (l : List α) (x : α) : (flatK enc k (l ++ [x]).toArray).toList = (flatK enc k l.toArray).toList ++ enc x := by
  apply list_bang_ext
  · simp [hk, Nat.add_mul]
  · intro t ht
    have ht' : t < (l.length + 1) * k := by simpa using ht
    have hk0 : 0 < k := by
      rcases Nat.eq_zero_or_pos k with h | h
      · subst h; omega
      · exact h
    rw [← bang_list (flatK enc k (l ++ [x]).toArray) t, get_flatK _ _ _ _ (by simpa using ht')]
    by_cases c : t < l.length * k
    · rw [app_left _ _ _ (by simpa using c), ← bang_list (flatK enc k l.toArray) t, get_flatK _ _ _ _ (by simpa using c)]
      have : t / k < l.length := (Nat.div_lt_iff_lt_mul hk0).2 c
      congr 2
      rw [getElem!_pos _ _ (by simp; omega), getElem!_pos _ _ (by simpa using this)]
      simp [this]
    · obtain ⟨s, rfl⟩ : ∃ s, t = (flatK enc k l.toArray).toList.length + s := ⟨t - l.length * k, by simp; omega⟩
      rw [app_right]
      have hs : s < k := by
        rw [Nat.add_mul, Nat.one_mul] at ht'
        simp at ht'
        omega
      have e1 : ((flatK enc k l.toArray).toList.length + s) / k = l.length := by
        rw [Array.length_toList, size_flatK, List.size_toArray, Nat.mul_comm, Nat.mul_add_div hk0, Nat.div_eq_of_lt hs, Nat.add_zero]
      have e2 : ((flatK enc k l.toArray).toList.length + s) % k = s := by
        rw [Array.length_toList, size_flatK, List.size_toArray, Nat.mul_comm, Nat.mul_add_mod, Nat.mod_eq_of_lt hs]
      rw [e1, e2, getElem!_pos (l ++ [x]).toArray l.length (by simp)]
      simp

end

theorem row_of_owns {W : World} {base : Nat} {e : TypeId} {k : Nat} {v : Value} {n : Nat} {xs : List Value} (h : W.ownsRow base e k v n xs) : v.ownBlock = none ∨ ∃ r, v.ownBlock = some r ∧ base ≤ r := by
  rcases h.2 with ⟨rfl, _⟩ | ⟨g, cap, cur, rfl, hg, _⟩
  · exact Or.inl rfl
  · exact Or.inr ⟨g, rfl, hg⟩

theorem equalPair (a b c d : Int) (w : World) : (Op.equalIn 10000 69 (.agg #[.int .i64 a, .int .i64 b]) (.agg #[.int .i64 c, .int .i64 d])).run Tryz.prog w = .ok (decide ((a, b) = (c, d))) w := by
  have u3 := Tryz.underlying3
  have a3 := Tryz.isAgg3
  have z3 := Tryz.sizeOf3
  have hS : Tryz.prog.underlying 69 = some (.struct (Tryz.prog.fieldsOf 69)) := by kernel_rfl
  have hp : Tryz.prog.stoodInHeld 69 = false := by kernel_rfl
  rw [show (10000 : Nat) = 9999 + 1 from rfl, run_equalIn_agg w 9999 69 _ _ hS hp]
  simp only [Program.fieldsOf, Tryz.underlying69]
  go_simp
  by_cases h1 : a = c <;> by_cases h2 : b = d <;> simp [h1, h2]

theorem eqlPair (x y : Pr) (w : World) : Sem.run Tryz.prog (binOp .eql 69 (.agg (encP x).toArray) (.agg (encP y).toArray)) w = .ok (.bool (decide (x = y))) w := by
  obtain ⟨a, b⟩ := x
  obtain ⟨c, d⟩ := y
  simp only [encP]
  rw [run_eql_struct, equalPair]
  rfl

theorem neqPair (x y : Pr) (w : World) : Sem.run Tryz.prog (binOp .neq 69 (.agg (encP x).toArray) (.agg (encP y).toArray)) w = .ok (.bool (!decide (x = y))) w := by
  obtain ⟨a, b⟩ := x
  obtain ⟨c, d⟩ := y
  simp only [encP]
  rw [run_neq_struct, equalPair]
  rfl

theorem gdPair (op : BinOp) (a b : Operand) (x y : Pr) (w : World) : Sem.run Tryz.prog (eqGuard op 69 a b (.agg (encP x).toArray) (.agg (encP y).toArray)) w = .ok () w :=
  GuardAt.agg (P := Tryz.prog) (T := 69) (fun x : Pr => (encP x).toArray) (by kernel_rfl) op a b x y w

theorem row_at {w wr : World} {ao : Option Addr} {l : List Pr} (h3 : l ≠ [] → ∃ b off, ao = some ⟨b, off, none⟩ ∧ b < w.heap.size ∧ CellsK encP 2 w b off l) (i : Nat) (hi : i < l.length) (hb : Below w.heap.size w wr) :
    ∃ b off, ao = some ⟨b, off, none⟩ ∧ b < w.heap.size ∧ wr.cell? ⟨b, off + i * 2, none⟩ = some (.int .i64 l[i]!.1) ∧ wr.cell? ⟨b, off + i * 2 + 1, none⟩ = some (.int .i64 l[i]!.2) := by
  obtain ⟨b, off, e, hlt, hc⟩ := h3 (by intro h; rw [h] at hi; simp at hi)
  refine ⟨b, off, e, hlt, ?_, ?_⟩
  · rw [hb.cell (p := ⟨b, off + i * 2, none⟩) hlt, hc (i * 2) (by omega), get_flatK _ _ _ _ (by simp; omega), show i * 2 / 2 = i by omega, show i * 2 % 2 = 0 by omega]
    simp [encP]
  · rw [Nat.add_assoc, hb.cell (p := ⟨b, off + (i * 2 + 1), none⟩) hlt, hc (i * 2 + 1) (by omega), get_flatK _ _ _ _ (by simp; omega), show (i * 2 + 1) / 2 = i by omega, show (i * 2 + 1) % 2 = 1 by omega]
    simp [encP]

theorem eqlP {x y : Pr} {f : Bool} (h : decide (x = y) = f) (W : World) : Sem.run Tryz.prog (binOp .eql 69 (.agg #[.int .i64 x.1, .int .i64 x.2]) (.agg #[.int .i64 y.1, .int .i64 y.2])) W = .ok (.bool f) W := by
  have := eqlPair x y W
  rw [h] at this
  exact this

theorem neqP {x y : Pr} {f : Bool} (h : decide (x = y) = f) (W : World) : Sem.run Tryz.prog (binOp .neq 69 (.agg #[.int .i64 x.1, .int .i64 x.2]) (.agg #[.int .i64 y.1, .int .i64 y.2])) W = .ok (.bool !f) W := by
  have := neqPair x y W
  rw [h] at this
  exact this

theorem gdP (x y : Pr) (op : BinOp) (a b : Operand) (W : World) : Sem.run Tryz.prog (eqGuard op 69 a b (.agg #[.int .i64 x.1, .int .i64 x.2]) (.agg #[.int .i64 y.1, .int .i64 y.2])) W = .ok () W := gdPair op a b x y W

theorem take_next {α : Type} [Inhabited α] {l : List α} {i : Nat} (h : i < l.length) : l.take (i + 1) = l.take i ++ [l[i]!] := by
  rw [List.take_add_one, List.getElem?_eq_getElem h, getElem!_pos l i h]; rfl

theorem bang_mem {α : Type} [Inhabited α] {l : List α} {i : Nat} (h : i < l.length) : l[i]! ∈ l := by
  rw [getElem!_pos l i h]; exact List.getElem_mem h

theorem drop_here {α : Type} [Inhabited α] {l : List α} {i : Nat} (h : i < l.length) : l.drop i = l[i]! :: l.drop (i + 1) := by
  rw [List.drop_eq_getElem_cons h, getElem!_pos l i h]

theorem below_grown {B : Nat} {w W : World} (h : Below B w W) (hB : B ≤ W.heap.size) (n : Nat) (os : Array Obj) : Below B w (grow (W.drewN n) os) := h.trans ((GR.below (w := W) ⟨n, os, rfl⟩).mono hB)

/-- A row of pairs that the call has made by append. -/
abbrev OwnP (base : Nat) (W : World) (v : Value) (l : List Pr) : Prop := W.ownsRow base 69 2 v l.length (flatK encP 2 l.toArray).toList

theorem OwnP.empty (base : Nat) (W : World) : OwnP base W (.slice none 0 0) [] := by unfold OwnP; simpa [flatK] using World.ownsRow_nil W base 69 2

theorem OwnP.own {base : Nat} {W : World} {v : Value} {l : List Pr} (h : OwnP base W v l) : Own encP 2 base W v l := own_of_owns (by decide) h

theorem OwnP.step {base : Nat} {W w1 : World} {v v' : Value} {l : List Pr} {x : Pr} (hbase : base ≤ W.heap.size) (h : OwnP base W v l) (hgrow : W.grownBy w1 v.ownBlock) (hown : w1.ownsRow base 69 2 v' (l.length + 1) ((flatK encP 2 l.toArray).toList ++ encP x)) :
    OwnP base w1 v' (l ++ [x]) ∧ ∀ w0, Below base w0 W → Below base w0 w1 := by
  refine ⟨?_, fun w0 hb => hb.grown hgrow hbase fun k hk => ?_⟩
  · show w1.ownsRow base 69 2 v' (l ++ [x]).length (flatK encP 2 (l ++ [x]).toArray).toList
    rw [List.length_append, List.length_singleton, flatK_snoc encP 2 encP_len]
    exact hown
  · rcases row_of_owns h with hr | ⟨r, hr, hle⟩
    · rw [hr] at hk; cases hk
    · rw [hr] at hk; cases hk; exact hle

/-- One pair appended to such a row. -/
theorem app_pair {ops : Array Oper} {rest : List Oper} {o : Oper} {a : Act} {Q : Exit → Act → World → Prop} {w : World} (hgd : o.guard = .none) (s x : Operand)
    (ho : o.op = .call { callee := .builtin .append, args := #[s, x], argTypes := #[22, 22] }) (base : Nat) (v : Value) (l : List Pr) (hs : a.eval s = v) (hown : OwnP base w v l)
    (b off c : Nat) (hx : a.eval x = .slice (some ⟨b, off, .none⟩) 1 c) (y : Pr) (c0 : w.cell? ⟨b, off, .none⟩ = some (.int .i64 y.1)) (c1 : w.cell? ⟨b, off + 1, .none⟩ = some (.int .i64 y.2)) (hl : l.length < 1000000) (hbase : base ≤ w.heap.size)
    (h : ∀ ao n c w', OwnP base w' (.slice ao n c) (l ++ [y]) → (∀ w0, Below base w0 w → Below base w0 w') → wpList Tryz.prog ops Q rest (a.put o.dst (.slice ao n c)) w') : wpList Tryz.prog ops Q (o :: rest) a w := by
  obtain ⟨i0, hi, hz0, hz1, hz2⟩ := info_parts infoPair
  refine wpList_append_own w hgd s x 22 ho base 69 i0 _ 2 16 Tryz.underlying22 hi hz0 hz1 hz2 rfl (by decide) v _ _ hs hown ⟨b, off, .none⟩ 1 c (encP y) hx rfl ?_ (encP_one y) (by unfold maxLen; omega) (by omega) hbase ?_
  · intro j u hj
    simp only [encP] at hj
    match j, hj with
    | 0, hj => simp at hj; subst hj; simpa [Addr.add] using c0
    | 1, hj => simp at hj; subst hj; simpa [Addr.add] using c1
  · intro v' w' h1 h2 _
    obtain ⟨s1, s2⟩ := OwnP.step hbase hown h2 h1
    obtain ⟨ao', n', c', rfl⟩ : ∃ ao n c, v' = .slice ao n c := by
      rcases h1.2 with ⟨h, _⟩ | ⟨g, cap, cur, h, _⟩
      · exact ⟨_, _, _, h⟩
      · exact ⟨_, _, _, h⟩
    exact h _ _ _ _ s1 s2

theorem flatK_append {α : Type} [Inhabited α] (enc : α → List Value) (k : Nat) (hk : ∀ x, (enc x).length = k) : ∀ (m l : List α), (flatK enc k (l ++ m).toArray).toList = (flatK enc k l.toArray).toList ++ (flatK enc k m.toArray).toList
  | [], l => by simp [flatK]
  | x :: m, l => by
    have e1 : l ++ x :: m = (l ++ [x]) ++ m := by simp
    have e2 : (flatK enc k (x :: m).toArray).toList = enc x ++ (flatK enc k m.toArray).toList := by
      have h := flatK_append enc k hk m [x]
      have h2 := flatK_snoc enc k hk [] x
      rw [List.nil_append] at h2
      rw [h2] at h
      simpa [flatK] using h
    rw [e1, flatK_append enc k hk m (l ++ [x]), flatK_snoc enc k hk, e2, List.append_assoc]

theorem app_rowP {ops : Array Oper} {rest : List Oper} {o : Oper} {a : Act} {Q : Exit → Act → World → Prop} {w : World} (hgd : o.guard = .none) (s x : Operand)
    (ho : o.op = .call { callee := .builtin .append, args := #[s, x], argTypes := #[22, 22] }) (base : Nat) (v : Value) (l : List Pr) (hs : a.eval s = v) (hown : OwnP base w v l)
    (u : Value) (m : List Pr) (hx : a.eval x = u) (hu : Row encP 2 w u m) (hl : l.length + m.length < 1000000) (hbase : base ≤ w.heap.size) (lm : List Pr) (hlm : l ++ m = lm)
    (h : ∀ ao n c w', OwnP base w' (.slice ao n c) lm → (∀ w0, Below base w0 w → Below base w0 w') → wpList Tryz.prog ops Q rest (a.put o.dst (.slice ao n c)) w') : wpList Tryz.prog ops Q (o :: rest) a w := by
  subst hlm
  obtain ⟨i0, hi, hz0, hz1, hz2⟩ := info_parts infoPair
  obtain ⟨ao, cap, rfl, h1, h2, h3⟩ := hu
  obtain ⟨av, nv, cv, rfl⟩ : ∃ ao n c, v = .slice ao n c := by
    rcases hown.2 with ⟨h, _⟩ | ⟨g, cap, cur, h, _⟩
    · exact ⟨_, _, _, h⟩
    · exact ⟨_, _, _, h⟩
  cases ao with
  | none =>
    have hm : m = [] := by
      rcases List.eq_nil_or_concat m with e | ⟨m', y, e⟩
      · exact e
      · obtain ⟨b, off, e2, _⟩ := h3 (by rw [e]; simp)
        cases e2
    subst hm
    rw [h2 rfl] at hx
    refine wpList_append_own_none hgd s x 22 ho base 69 i0 2 Tryz.underlying22 hi _ _ _ hs hown hx ?_
    exact h _ _ _ _ (by rw [List.append_nil]; exact hown) (fun _ hb => hb)
  | some ad =>
    refine wpList_append_own w hgd s x 22 ho base 69 i0 _ 2 16 Tryz.underlying22 hi hz0 hz1 hz2 rfl (by decide) _ _ _ hs hown ad m.length cap (flatK encP 2 m.toArray).toList hx (by simp) ?_ (flatK_oneCell encP_one encP_len) (by unfold maxLen; omega) (by omega) hbase ?_
    · intro j u hj
      obtain ⟨hj1, hj2⟩ := List.getElem?_eq_some_iff.1 hj
      have hj3 : j < m.length * 2 := by simpa using hj1
      obtain ⟨b, off, e2, _, hc⟩ := h3 (by intro e; rw [e] at hj3; simp at hj3)
      cases e2
      rw [Go.WideShapes.add_plain, hc j hj3, getElem!_pos _ j (by simpa using hj3), ← hj2]
      simp
    · intro v' w' g1 g2 _
      obtain ⟨ao', n', c', rfl⟩ : ∃ ao n c, v' = .slice ao n c := by
        rcases g1.2 with ⟨h, _⟩ | ⟨g, cap, cur, h, _⟩
        · exact ⟨_, _, _, h⟩
        · exact ⟨_, _, _, h⟩
      refine h _ _ _ _ ?_ (fun w0 hb => hb.grown g2 hbase fun k hk => ?_)
      · show w'.ownsRow base 69 2 _ (l ++ m).length (flatK encP 2 (l ++ m).toArray).toList
        rw [List.length_append, flatK_append encP 2 encP_len]
        exact g1
      · rcases row_of_owns hown with hr | ⟨r, hr, hle⟩
        · rw [hr] at hk; cases hk
        · rw [hr] at hk; cases hk; exact hle

theorem ownsRow_below {W W' : World} {base : Nat} {e : TypeId} {k : Nat} {v : Value} {n : Nat} {xs : List Value} (h : W.ownsRow base e k v n xs) (hb : Below W.heap.size W W') : W'.ownsRow base e k v n xs := by
  obtain ⟨h1, h2⟩ := h
  refine ⟨h1, ?_⟩
  rcases h2 with h2 | ⟨g, cap, cur, hv, hg, hh, r⟩
  · exact Or.inl h2
  · exact Or.inr ⟨g, cap, cur, hv, hg, by rw [hb.block g (Array.getElem?_eq_some_iff.1 hh).1]; exact hh, r⟩

/-- A row that does not lie in block 'lo'. -/
def RowL (lo : Nat) (w : World) (v : Value) (l : List Pr) : Prop :=
  ∃ ao cap, v = .slice ao l.length cap ∧ l.length ≤ cap ∧ (ao = none → cap = 0) ∧ (l ≠ [] → ∃ b off, ao = some ⟨b, off, none⟩ ∧ b ≠ lo ∧ b < w.heap.size ∧ CellsK encP 2 w b off l)

/-- But for block 'lo' what was there is as it was. -/
def Kept (lo : Nat) (w W : World) : Prop := w.heap.size ≤ W.heap.size ∧ ∀ p : Addr, p.block ≠ lo → p.block < w.heap.size → W.cell? p = w.cell? p

theorem rowL_of_own {base bb : Nat} {w : World} {v : Value} {l : List Pr} (h : Own encP 2 base w v l) (hb : bb < base) : RowL bb w v l := by
  obtain ⟨ao, cap, e, h1, h2, h3⟩ := h
  refine ⟨ao, cap, e, h1, h2, fun hne => ?_⟩
  obtain ⟨b, off, e2, hl, hb', hH⟩ := h3 hne
  exact ⟨b, off, e2, by omega, hb', cells_of_holds hH⟩

theorem rowL_of_row {w : World} {v : Value} {l : List Pr} (h : Row encP 2 w v l) (o : Obj) : RowL w.heap.size (w.alloc o) v l := by
  obtain ⟨ao, cap, e, h1, h2, h3⟩ := h
  refine ⟨ao, cap, e, h1, h2, fun hne => ?_⟩
  obtain ⟨b, off, e2, hlt, hH⟩ := h3 hne
  exact ⟨b, off, e2, by omega, by simp; omega, fun t ht => Lib.cell?_alloc_some _ (hH t ht)⟩

theorem RowL.below {lo : Nat} {w W : World} {v : Value} {l : List Pr} (h : RowL lo w v l) (hb : Below w.heap.size w W) : RowL lo W v l := by
  obtain ⟨ao, cap, e, h1, h2, h3⟩ := h
  refine ⟨ao, cap, e, h1, h2, fun hne => ?_⟩
  obtain ⟨b, off, e2, hl, hlt, hH⟩ := h3 hne
  exact ⟨b, off, e2, hl, Nat.lt_of_lt_of_le hlt hb.size, fun t ht => (hb.cell (p := ⟨b, off + t, none⟩) hlt).trans (hH t ht)⟩

/-- A row's head. -/
theorem row_cons {lo : Nat} {w : World} {v : Value} {x : Pr} {l : List Pr} (h : RowL lo w v (x :: l)) :
    ∃ b off cap, v = .slice (some ⟨b, off, none⟩) (l.length + 1) cap ∧ l.length + 1 ≤ cap ∧ b ≠ lo ∧ b < w.heap.size ∧ w.cell? ⟨b, off, none⟩ = some (.int .i64 x.1) ∧ w.cell? ⟨b, off + 1, none⟩ = some (.int .i64 x.2) ∧
      ∀ ao, (l ≠ [] → ao = some ⟨b, off + 2, none⟩) → (ao = none → cap - 1 = 0) → RowL lo w (.slice ao l.length (cap - 1)) l := by
  obtain ⟨ao, cap, rfl, h1, h2, h3⟩ := h
  obtain ⟨b, off, rfl, hlo, hb, hc⟩ := h3 (by simp)
  have hlen : (x :: l).length = l.length + 1 := rfl
  have c0 := hc 0 (by rw [hlen]; omega)
  have c1 := hc 1 (by rw [hlen]; omega)
  rw [get_flatK _ _ _ _ (by simp)] at c0
  rw [get_flatK _ _ _ _ (by simp; omega)] at c1
  refine ⟨b, off, cap, rfl, h1, hlo, hb, by simpa [encP] using c0, by simpa [encP] using c1, fun ao ha hn => ⟨ao, cap - 1, rfl, by rw [hlen] at h1; omega, hn, fun hne => ⟨b, off + 2, ha hne, hlo, hb, fun t ht => ?_⟩⟩⟩
  have ct := hc (t + 2) (by rw [hlen]; omega)
  rw [get_flatK _ _ _ _ (by simp; omega)] at ct
  rw [get_flatK _ _ _ _ (by simpa using ht), show off + 2 + t = off + (t + 2) by omega, ct]
  have e1 : (t + 2) / 2 = t / 2 + 1 := by omega
  have e2 : (t + 2) % 2 = t % 2 := by omega
  rw [e1, e2]
  congr 3
  have ht2 : t / 2 < l.length := by omega
  rw [getElem!_pos _ _ (by simp; omega), getElem!_pos _ _ (by simpa using ht2)]
  simp

theorem row_block {α : Type} [Inhabited α] {enc : α → List Value} {k : Nat} {w : World} {b n : Nat} {T : TypeId} {fr : Nat × Nat} {cs : Array Value} {l : List α} (hb : w.heap[b]? = some (.cells cs T fr)) (hcs : cs = flatK enc k l.toArray) (hn : l.length = n) : Row enc k w (.slice (some ⟨b, 0, none⟩) n n) l := by
  subst hn
  refine ⟨_, _, rfl, Nat.le_refl _, (fun h => by cases h), fun _ => ⟨b, 0, rfl, (Array.getElem?_eq_some_iff.1 hb).1, fun t ht => ?_⟩⟩
  simp only [World.cell?, hb, Nat.zero_add, hcs]
  have ht' : t < (flatK enc k l.toArray).size := by simpa using ht
  rw [Array.getElem?_eq_getElem ht', getElem!_pos _ t ht']
  rfl
end

/-! RnSmall -/
section
open Go.Shelf Go.RowKit Go.Lib Go.Sort

theorem results_cell {fn : Func} {p : Tmp} {ty : TypeId} (h : fn.results = #[.cell p ty]) (tmps : Array Value) (P : Program) (w : World) :
    (results fn tmps).run P w = ((asAddr (tmps.getD p undef)).run P w).andThen fun a w₁ => (loadVar ty a).run P w₁ := by
  simp only [results, h]
  simp [Sem.run_bind, Result.andThen]

theorem ret_boolR {a b : Bool} (h : a = b) : Ending.returned (.bool a) = Ending.returned (.bool b) := by rw [h]
theorem ret_intR {a b : Int} (h : a = b) : Ending.returned (.int .i64 a) = Ending.returned (.int .i64 b) := by rw [h]

theorem flat_one (x : Pr) : #[Value.int .i64 x.1, Value.int .i64 x.2] = flatK encP 2 [x].toArray := by
  apply Array.ext'
  have := flatK_snoc encP 2 encP_len [] x
  rw [List.nil_append] at this
  rw [this]
  simp [flatK, encP]

set_option maxHeartbeats 1000000 in
theorem clip_any (x : Pr) (w : World) : Calls Tryz.prog 109 #[.agg #[.int .i64 x.1, .int .i64 x.2]] w fun e w' => e = .returned (.agg #[.int .i64 (clipR x).1, .int .i64 (clipR x).2]) ∧ GR w w' := by
  go_enter Tryz.func109, Tryz.ntmps109
  go_wp2
  (try simp only [Exit.inBlock, Exit.then])
  refine bodyPost_ret (v := .agg #[.int .i64 (max x.1 0), .int .i64 (min x.2 4294967295)]) ?_ rfl ⟨rfl, ?_⟩
  · rw [results_cell rfl]
    go_simp
  · exact ((GR.refl w).alloc _).alloc _

set_option maxHeartbeats 1000000 in
theorem rclip_any (x : Pr) (w : World) : Calls Tryz.prog 83 #[.agg #[.int .i64 x.1, .int .i64 x.2]] w fun e w' => e = .returned (.tuple #[.agg #[.int .i64 (clipR x).1, .int .i64 (clipR x).2], .bool (decide ((clipR x).1 ≤ (clipR x).2))]) ∧ GR w w' := by
  obtain ⟨a, ha⟩ : ∃ a, max x.1 0 = a := ⟨_, rfl⟩
  obtain ⟨b, hb⟩ : ∃ b, min x.2 4294967295 = b := ⟨_, rfl⟩
  have E : clipR x = (a, b) := by unfold clipR; rw [ha, hb]
  rw [E]
  clear E
  go_enter Tryz.func83, Tryz.ntmps83
  go_wp2
  go_region
  all_goals go_wp2
  (try simp only [Exit.inBlock, Exit.then])
  refine bodyPost_ret (v := .tuple #[.agg #[.int .i64 a, .int .i64 b], .bool (decide (a ≤ b))]) ?_ rfl ⟨rfl, ?_⟩
  · rw [results_cell_tmp rfl]
    go_simp
  · exact ((((GR.refl w).alloc _).alloc _).alloc _).drew

set_option maxHeartbeats 1000000 in
theorem cmpF_any (x y : Pr) (W : World) : Calls Tryz.prog 111 #[.agg #[.int .i64 x.1, .int .i64 x.2], .agg #[.int .i64 y.1, .int .i64 y.2]] W fun e w' => e = .returned (.int .i64 (Lib.compareInt x.1 y.1)) ∧ ∃ q os', w' = grow (W.drewN q) os' := by
  have hcon := fun W' => AnyG.cmp_Compare_int Tryz.cmpInt x.1 y.1 W'
  change ∀ W', Calls Tryz.prog 112 _ _ _ at hcon
  generalize Lib.compareInt x.1 y.1 = r at hcon ⊢
  go_enter Tryz.func111, Tryz.ntmps111
  go_wp2_with (go_at_call 112; refine (hcon _).mono ?_; rintro e w' ⟨rfl, rfl⟩)
  go_ret
  exact ⟨rfl, 0, _, by rw [alloc_eq_grow, alloc_eq_grow, grow_grow]; rfl⟩

set_option maxHeartbeats 1000000 in
theorem single_any (n : Int) (w : World) : Calls Tryz.prog 76 #[.int .i64 n] w fun e w' => ∃ v, e = .returned v ∧ Row encP 2 w' v [(n, n)] ∧ Below w.heap.size w w' := by
  go_enter Tryz.func76, Tryz.ntmps76
  go_wp2
  go_ret
  refine ⟨_, rfl, row_block (cs := #[.int .i64 n, .int .i64 n]) (heap_alloc_new _ _) (flat_one (n, n)) rfl, ?_⟩
  exact (Below.refl _ w).alloc (Nat.le_refl _) _

set_option maxHeartbeats 1000000 in
theorem hasF_any (x : Pr) (n : Int) (b : Nat) (W : World) (hb : W.cell? ⟨b, 0, none⟩ = some (.int .i64 n)) : Calls Tryz.prog 67 #[.agg #[.int .i64 x.1, .int .i64 x.2], .pointer (some ⟨b, 0, none⟩)] W fun e w' => e = .returned (.bool (inP n x)) ∧ Below W.heap.size W w' := by
  have hb2 : (W.alloc (.cells #[.int .i64 x.1, .int .i64 x.2] 69)).cell? ⟨b, 0, none⟩ = some (.int .i64 n) := Lib.cell?_alloc_some _ hb
  clear hb
  unfold inP
  by_cases h1 : x.1 ≤ n
  · by_cases h2 : n ≤ x.2
    · go_enter Tryz.func67, Tryz.ntmps67
      go_wp2
      go_ret
      exact ⟨by simp [h1, h2], (Below.refl _ W).alloc (Nat.le_refl _) _⟩
    · go_enter Tryz.func67, Tryz.ntmps67
      go_wp2
      go_ret
      exact ⟨by simp [h2], (Below.refl _ W).alloc (Nat.le_refl _) _⟩
  · go_enter Tryz.func67, Tryz.ntmps67
    go_wp2
    go_ret
    exact ⟨by rw [decide_eq_false (by omega : ¬ x.1 ≤ n)]; simp, (Below.refl _ W).alloc (Nat.le_refl _) _⟩

set_option maxHeartbeats 1000000 in
theorem index_short (ao : Option Addr) (cap : Nat) (f : Value) (w : World) : Calls Tryz.prog 96 #[.slice ao 0 cap, f] w fun e w' => e = .returned (.int .i64 (-1)) ∧ w' = w := by
  go_enter Tryz.func96, Tryz.ntmps96
  go_wp2
  refine wp_loop_rounds 1 ?_
  rw [rounds_succ]
  go_wp2
  go_ret
  exact ⟨rfl, rfl⟩

set_option maxHeartbeats 1000000 in
theorem contains_short (ao : Option Addr) (cap : Nat) (f : Value) (w : World) : Calls Tryz.prog 66 #[.slice ao 0 cap, f] w fun e w' => e = .returned (.bool false) ∧ w' = w := by
  have C : Hid _ := index_short ao cap f w
  go_enter Tryz.func66, Tryz.ntmps66
  go_wp2_with (go_at_call 96; refine Calls.mono C.out ?_; rintro e w' ⟨rfl, rfl⟩)
  go_ret
  exact ⟨rfl, rfl⟩

theorem contains_any (v : Value) (l : List Pr) (n : Int) (b : Nat) (w : World) (h : Row encP 2 w v l) (hl : l.length ≤ 1000000) (hb : w.cell? ⟨b, 0, none⟩ = some (.int .i64 n)) (hlt : b < w.heap.size) :
    Calls Tryz.prog 66 #[v, .func (.func 67) #[] #[.pointer (some ⟨b, 0, none⟩)]] w fun e w' => e = .returned (.bool (l.any (inP n))) ∧ Below w.heap.size w w' := by
  obtain ⟨ao, cap, rfl, h1, h2, h3⟩ := h
  by_cases hne : l = []
  · subst hne
    refine (contains_short ao cap _ w).mono ?_
    rintro e w' ⟨rfl, rfl⟩
    exact ⟨rfl, Below.refl _ _⟩
  · obtain ⟨b', off, rfl, hb', hc⟩ := h3 hne
    have C := AnyQ.slices_ContainsFunc Tryz.containsRun 2 Tryz.isAgg69 Tryz.sizeOf69 encP encP_len (inP n) 67 #[.pointer (some ⟨b, 0, none⟩)] (enters_of Tryz.func67 (by kernel_rfl) rfl) b' off l.length cap l w
      (fun W x hB => (hasF_any x n b W ((hB.cell (p := ⟨b, 0, none⟩) hlt).trans hb)).mono fun e w' ⟨he, hb2⟩ => ⟨he, hB.trans (hb2.mono hB.size)⟩) (Nat.le_refl _) (by omega) hb' (fun j hj i u hi => ?_)
    · rw [List.take_length] at C
      exact C
    · have hi2 : i < 2 := by
        have := (List.getElem?_eq_some_iff.1 hi).1
        rwa [encP_len] at this
      rw [Nat.add_assoc, hc (j * 2 + i) (by omega), get_flatK _ _ _ _ (by simp; omega)]
      have e1 : (j * 2 + i) / 2 = j := by omega
      have e2 : (j * 2 + i) % 2 = i := by omega
      rw [e1, e2]
      have e3 : l.toArray[j]! = l[j]! := by simp
      rw [e3]
      have := List.getElem?_eq_some_iff.1 hi
      rw [getElem!_pos _ i this.1, this.2]

theorem any_in (l : List Pr) (n : Int) (h0 : 0 ≤ n) (h1 : n ≤ 4294967295) : l.any (inP n) = hasB l n := by
  unfold hasB
  rw [decide_eq_true h0, decide_eq_true h1]
  rfl

set_option maxHeartbeats 1000000 in
theorem has_any (v : Value) (l : List Pr) (n : Int) (w : World) (h : Row encP 2 w v l) (hl : l.length ≤ 1000000) :
    Calls Tryz.prog 37 #[v, .int .i64 n] w fun e w' => e = .returned (.bool (hasB l n)) ∧ Below w.heap.size w w' := by
  have B : Hid (Below w.heap.size w (w.alloc (.cells #[.int .i64 n] 3))) := (Below.refl _ w).alloc (Nat.le_refl _) _
  have C : Hid _ := contains_any v l n w.heap.size (w.alloc (.cells #[.int .i64 n] 3)) (h.below B.out) hl (by simp) (by simp)
  by_cases h0 : 0 ≤ n
  · by_cases h1 : n ≤ 4294967295
    · rw [any_in l n h0 h1] at C
      obtain ⟨f, hf⟩ : ∃ f, hasB l n = f := ⟨_, rfl⟩
      rw [hf] at C ⊢
      have hz : (w.alloc (.cells #[.int .i64 n] 3)).heap.size = w.heap.size + 1 := by simp
      clear h hf
      go_enter Tryz.func37, Tryz.ntmps37
      go_wp2_with (go_at_call 66; refine Calls.mono C.out ?_; rintro e w' ⟨rfl, hb⟩)
      all_goals
        go_ret
        exact ⟨rfl, B.out.trans (hb.mono (by omega))⟩
    · have e : hasB l n = false := hasB_no fun k => h1 k.2.1
      rw [e]
      clear h C e
      go_enter Tryz.func37, Tryz.ntmps37
      go_wp2
      go_ret
      exact ⟨rfl, B.out⟩
  · have e : hasB l n = false := hasB_no fun k => h0 k.1
    rw [e]
    clear h C e
    go_enter Tryz.func37, Tryz.ntmps37
    go_wp2
    go_ret
    exact ⟨rfl, B.out⟩
end

/-! RnRef -/
section
open Go.Shelf Go.RowKit Go.Lib Go.Sort

section
variable {w w' : World} {q i k : Nat} {cs : Array Value} {t : TypeId}
/-- Block q holds these cells. -/
def Cl (w : World) (q : Nat) (cs : Array Value) (t : TypeId) : Prop := w.heap[q]? = some (.cells cs t (0, 0))
theorem Cl.lt (h : Cl w q cs t) : q < w.heap.size := (Array.getElem?_eq_some_iff.1 h).1
theorem Cl.cell (h : Cl w q cs t) (i : Nat) : w.cell? ⟨q, i, none⟩ = cs[i]? := by unfold Cl at h; simp [World.cell?, h]
theorem Cl.frozen (h : Cl w q cs t) (i : Nat) : w.frozen? ⟨q, i, none⟩ = false := by unfold Cl at h; simp [World.frozen?, h]
theorem Cl.set (h : Cl w q cs t) (i : Nat) (v : Value) : Cl (w.setCell ⟨q, i, none⟩ v) q (cs.setIfInBounds i v) t := by
  unfold Cl at h ⊢; simp [World.setCell, Array.getElem?_modify, h]
theorem Cl.new (w : World) (cs : Array Value) (t : TypeId) : Cl (w.alloc (.cells cs t)) w.heap.size cs t := by
  show (w.heap.push _)[w.heap.size]? = _; simp
theorem Cl.below {B : Nat} (h : Cl w q cs t) (b : Below B w w') (hq : q < B) : Cl w' q cs t := (b.block q hq).trans h
theorem Cl.on (h : Cl w q cs t) (b : Below w.heap.size w w') : Cl w' q cs t := h.below b h.lt
theorem Cl.alloc (h : Cl w q cs t) (o : Obj) : Cl (w.alloc o) q cs t := h.on ((Below.refl _ _).alloc (Nat.le_refl _) _)
theorem Cl.two {a b : Value} (h : Cl w q #[a, b] t) : w.cell? ⟨q, 0, none⟩ = some a ∧ w.cell? ⟨q, 1, none⟩ = some b := ⟨h.cell 0, h.cell 1⟩
theorem Cl.set2 {x y : Value} (h : Cl w q #[x, y] t) (a b : Value) : Cl ((w.setCell ⟨q, 0, none⟩ a).setCell ⟨q, 1, none⟩ b) q #[a, b] t := (h.set 0 a).set 1 b
end

set_option maxHeartbeats 2000000 in
set_option maxRecDepth 100000 in
theorem same_any (va vb : Value) (a b : List Pr) (w : World) (ha : Row encP 2 w va a) (hb : Row encP 2 w vb b) (hl : a.length ≤ 1000000) (hl2 : b.length ≤ 1000000) :
    Calls Tryz.prog 23 #[va, vb] w fun e w' => e = .returned (.bool (decide (a = b))) ∧ Below w.heap.size w w' := by
  obtain ⟨ao, ca, rfl, a1, a2, a3⟩ := ha
  obtain ⟨bo, cb, rfl, b1, b2, b3⟩ := hb
  have A3 : Aside (a ≠ [] → ∃ b off, ao = some ⟨b, off, none⟩ ∧ b < w.heap.size ∧ CellsK encP 2 w b off a) := a3
  have B3 : Aside (b ≠ [] → ∃ b' off, bo = some ⟨b', off, none⟩ ∧ b' < w.heap.size ∧ CellsK encP 2 w b' off b) := b3
  clear a3 b3
  by_cases hlen : a.length = b.length
  · have HL : Hid (a.length = b.length) := hlen
    have hle1 : a.length ≤ b.length := by omega
    have hle2 : b.length ≤ a.length := by omega
    have hneq : ((a.length : Int) != (b.length : Int)) = false := by simp; omega
    clear hlen
    go_enter Tryz.func23, Tryz.ntmps23
    go_wp2
    go_loopg [5] a.length (fun kx s5 wr => ∃ (i : Nat), s5 = .int .i64 i ∧ i ≤ a.length ∧ a.length - i ≤ kx ∧ Hid (GR w wr) ∧ Hid (a.take i = b.take i))
    case atStart => exact ⟨0, rfl, Nat.zero_le _, Nat.le_refl _, GR.refl _, by simp [Hid]⟩
    case round =>
      obtain ⟨i, rfl, hi, hki, HG, HN⟩ := hrel
      by_cases hil : i < a.length
      · have hilz : (i : Int) < (a.length : Int) := by omega
        have hilb : i < b.length := by omega
        obtain ⟨ba, oa, rfl, hba, x1, x2⟩ := row_at A3.out i hil HG.out.below
        obtain ⟨bb, ob, rfl, hbb, y1, y2⟩ := row_at B3.out i hilb HG.out.below
        have T : Hid (a.take (i + 1) = a.take i ++ [a[i]!]) := take_next hil
        have T2 : Hid (b.take (i + 1) = b.take i ++ [b[i]!]) := take_next hilb
        generalize a[i]! = x at *
        generalize b[i]! = y at *
        have HD : Hid (GR w wr.drew) := HG.out.drew
        by_cases he : x = y
        · have E := fun W => neqP (x := x) (y := y) (decide_eq_true he) W
          have G := gdP x y
          have HE : Hid (x = y) := he
          clear he
          simp only [Bool.not_true] at E
          go_wp2_with fail
          go_region
          all_goals go_wp2
          all_goals go_roundg (a.length - (i + 1))
          case measure => omega
          case rel =>
            refine ⟨i + 1, by go_num, by omega, Nat.le_refl _, HD, ?_⟩
            show _ = _
            rw [T.out, T2.out, HN.out, HE.out]
        · have E := fun W => neqP (x := x) (y := y) (decide_eq_false he) W
          have G := gdP x y
          have HE : Hid (x ≠ y) := he
          clear he
          simp only [Bool.not_false] at E
          go_wp2_with fail
          go_region
          all_goals go_wp2
          all_goals go_ret
          all_goals
            refine ⟨ret_boolR (decide_eq_false fun h => HE.out ?_).symm, HD.out.below⟩
            subst h
            have := T.out.symm.trans T2.out
            simpa using this
      · have hilz : ¬ (i : Int) < (a.length : Int) := by omega
        obtain rfl : i = a.length := by omega
        go_wp2
        go_ret
        refine ⟨ret_boolR (decide_eq_true ?_).symm, HG.out.below⟩
        have := HN.out
        rw [List.take_length, HL.out, List.take_length] at this
        exact this
  · have hneq : ((a.length : Int) != (b.length : Int)) = true := by simp; omega
    have HL : Hid (a.length ≠ b.length) := hlen
    clear hlen
    go_enter Tryz.func23, Tryz.ntmps23
    go_wp2
    go_ret
    exact ⟨ret_boolR (decide_eq_false fun h => HL.out (by rw [h])).symm, Below.refl _ _⟩

set_option maxHeartbeats 2000000 in
set_option maxRecDepth 100000 in
theorem rhas_any (v : Value) (l : List Pr) (n : Int) (w : World) (h : Row encP 2 w v l) (hl : l.length ≤ 1000000) :
    Calls Tryz.prog 44 #[v, .int .i64 n] w fun e w' => e = .returned (.bool (hasB l n)) ∧ Below w.heap.size w w' := by
  obtain ⟨ao, cap, rfl, h1, h2, h3⟩ := h
  have H3 : Aside (l ≠ [] → ∃ b off, ao = some ⟨b, off, none⟩ ∧ b < w.heap.size ∧ CellsK encP 2 w b off l) := h3
  clear h3
  go_enter Tryz.func44, Tryz.ntmps44
  go_wp2
  go_loopg [5] l.length (fun kx s5 wr => ∃ (i : Nat), s5 = .int .i64 i ∧ i ≤ l.length ∧ l.length - i ≤ kx ∧ Hid (GR w wr) ∧ Hid (¬ InR (l.take i) n))
  case atStart => exact ⟨0, rfl, Nat.zero_le _, Nat.le_refl _, GR.refl _, by simp [Hid, inR_nil]⟩
  case round =>
    obtain ⟨i, rfl, hi, hki, HG, HN⟩ := hrel
    by_cases hil : i < l.length
    · have hilz : (i : Int) < (l.length : Int) := by omega
      obtain ⟨ba, oa, rfl, hba, x1, x2⟩ := row_at H3.out i hil HG.out.below
      have T : Hid (l.take (i + 1) = l.take i ++ [l[i]!]) := take_next hil
      have M : Hid (l[i]! ∈ l) := bang_mem hil
      generalize l[i]! = x at *
      by_cases hin : 0 ≤ n ∧ n ≤ 4294967295 ∧ x.1 ≤ n ∧ n ≤ x.2
      · obtain ⟨g1, g2, g3, g4⟩ := hin
        go_wp2
        go_ret
        refine ⟨ret_boolR (hasB_yes ⟨g1, g2, x, M.out, g3, g4⟩).symm, HG.out.below⟩
      · have T2 : Hid (¬ InR (l.take (i + 1)) n) := by
          show ¬ _
          rw [T.out, inR_append, inR_one]
          rintro (k | k)
          · exact HN.out k
          · exact hin k
        have hin2 : Hid _ := hin
        clear hin
        by_cases g1 : 0 ≤ n
        · by_cases g2 : n ≤ 4294967295
          · by_cases g3 : x.1 ≤ n
            · have g4 : ¬ n ≤ x.2 := fun g4 => hin2.out ⟨g1, g2, g3, g4⟩
              clear hin2
              go_wp2
              go_roundg (l.length - (i + 1))
              case measure => omega
              case rel => exact ⟨i + 1, by go_num, by omega, Nat.le_refl _, HG, T2⟩
            · clear hin2
              go_wp2
              go_roundg (l.length - (i + 1))
              case measure => omega
              case rel => exact ⟨i + 1, by go_num, by omega, Nat.le_refl _, HG, T2⟩
          · clear hin2
            go_wp2
            go_roundg (l.length - (i + 1))
            case measure => omega
            case rel => exact ⟨i + 1, by go_num, by omega, Nat.le_refl _, HG, T2⟩
        · clear hin2
          go_wp2
          go_roundg (l.length - (i + 1))
          case measure => omega
          case rel => exact ⟨i + 1, by go_num, by omega, Nat.le_refl _, HG, T2⟩
    · have hilz : ¬ (i : Int) < (l.length : Int) := by omega
      obtain rfl : i = l.length := by omega
      rw [List.take_length] at HN
      go_wp2
      go_ret
      exact ⟨ret_boolR (hasB_no HN.out).symm, HG.out.below⟩
end

/-! RnPut -/
section
open Go.Shelf Go.RowKit Go.Lib Go.Sort

theorem OwnP.other {base : Nat} {W : World} {v : Value} {l : List Pr} (h : OwnP base W v l) {j : Nat} (hj : W.heap.size ≤ j) : v.ownBlock ≠ some j := by
  rcases h.2 with ⟨rfl, _⟩ | ⟨g, cap, cur, rfl, hg, hh, _⟩
  · simp [Value.ownBlock]
  · have := (Array.getElem?_eq_some_iff.1 hh).1
    simp only [Value.ownBlock, ne_eq, Option.some.injEq]
    omega

theorem OwnP.ne {base : Nat} {W : World} {v : Value} {l : List Pr} (h : OwnP base W v l) {j : Nat} (hj : j < base) : v.ownBlock ≠ some j := by
  rcases h.2 with ⟨rfl, _⟩ | ⟨g, cap, cur, rfl, hg, hh, _⟩
  · simp [Value.ownBlock]
  · simp only [Value.ownBlock, ne_eq, Option.some.injEq]
    omega

/-- One run appended to a row of the call's own: no block has turned but the row's. -/
theorem app_run {ops : Array Oper} {rest : List Oper} {o : Oper} {a : Act} {Q : Exit → Act → World → Prop} {w : World} (hgd : o.guard = .none) (s x : Operand)
    (ho : o.op = .call { callee := .builtin .append, args := #[s, x], argTypes := #[22, 22] }) (base : Nat) (v : Value) (l : List Pr) (hs : a.eval s = v) (hown : OwnP base w v l)
    (b off c : Nat) (hx : a.eval x = .slice (some ⟨b, off, .none⟩) 1 c) (y : Pr) (c0 : w.cell? ⟨b, off, .none⟩ = some (.int .i64 y.1)) (c1 : w.cell? ⟨b, off + 1, .none⟩ = some (.int .i64 y.2)) (hl : l.length < 1000000) (hbase : base ≤ w.heap.size)
    (h : ∀ ao n c w', OwnP base w' (.slice ao n c) (l ++ [y]) → (∀ w0, Below base w0 w → Below base w0 w') → (∀ j, j < w.heap.size → v.ownBlock ≠ some j → w'.heap[j]? = w.heap[j]?) → wpList Tryz.prog ops Q rest (a.put o.dst (.slice ao n c)) w') : wpList Tryz.prog ops Q (o :: rest) a w := by
  obtain ⟨i0, hi, hz0, hz1, hz2⟩ := info_parts infoPair
  refine wpList_append_own w hgd s x 22 ho base 69 i0 _ 2 16 Tryz.underlying22 hi hz0 hz1 hz2 rfl (by decide) v _ _ hs hown ⟨b, off, .none⟩ 1 c (encP y) hx rfl ?_ (encP_one y) (by unfold maxLen; omega) (by omega) hbase ?_
  · intro j u hj
    simp only [encP] at hj
    match j, hj with
    | 0, hj => simp at hj; subst hj; simpa [Addr.add] using c0
    | 1, hj => simp at hj; subst hj; simpa [Addr.add] using c1
  · intro v' w' h1 h2 _
    obtain ⟨s1, s2⟩ := OwnP.step hbase hown h2 h1
    obtain ⟨ao', n', c', rfl⟩ : ∃ ao n c, v' = .slice ao n c := by
      rcases h1.2 with ⟨h, _⟩ | ⟨g, cap, cur, h, _⟩
      · exact ⟨_, _, _, h⟩
      · exact ⟨_, _, _, h⟩
    exact h _ _ _ _ s1 s2 fun j hj hne => h2.block j hj fun e => hne e.symm

theorem w64 {z : Int} (h0 : -4294967296 ≤ z) (h1 : z ≤ 17179869184) : wrap64 z = z := by unfold wrap64; omega

set_option maxHeartbeats 4000000 in
set_option maxRecDepth 100000 in
theorem rput_any (v : Value) (l : List Pr) (x : Pr) (w : World) (h : Row encP 2 w v l) (hl : l.length ≤ 50000) (hc : Cn l) :
    Calls Tryz.prog 54 #[v, .agg #[.int .i64 x.1, .int .i64 x.2]] w fun e w' => ∃ v', e = .returned v' ∧ Row encP 2 w' v' (putL l x) ∧ Below w.heap.size w w' := by
  have HR : Aside (Row encP 2 w v l) := h
  obtain ⟨ao, cap, rfl, h1, h2, h3⟩ := h
  have H3 : Aside (l ≠ [] → ∃ b off, ao = some ⟨b, off, none⟩ ∧ b < w.heap.size ∧ CellsK encP 2 w b off l) := h3
  have HC : Hid (Cn l) := hc
  have C : Hid _ := rclip_any x (w.alloc (.cells #[.int .i64 x.1, .int .i64 x.2] 69))
  have B0 : Hid (Below w.heap.size w (w.alloc (.cells #[.int .i64 x.1, .int .i64 x.2] 69))) := (Below.refl _ w).alloc (Nat.le_refl _) _
  have hz0 : (w.alloc (.cells #[.int .i64 x.1, .int .i64 x.2] 69)).heap.size = w.heap.size + 1 := by simp
  clear h3 hc
  obtain ⟨r0, hr0⟩ : ∃ r, clipR x = r := ⟨_, rfl⟩
  have BR : 0 ≤ r0.1 ∧ r0.2 ≤ 4294967295 := by rw [← hr0]; simp only [clipR]; omega
  rw [hr0] at C
  by_cases hok : r0.1 ≤ r0.2
  · rw [decide_eq_true hok] at C
    have EP : Hid (putL l x = putGo r0 false l) := by show _ = _; unfold putL; rw [hr0, if_pos hok]
    clear hr0
    go_enter Tryz.func54, Tryz.ntmps54
    go_wp2_with (go_at_call 83; refine Calls.mono C.out ?_; rintro e w1 ⟨rfl, hg⟩)
    have hz1 : w.heap.size + 1 ≤ w1.heap.size := by have := hg.below.size; omega
    have B1 : Hid (Below w.heap.size w (w1.alloc (.cells #[.int .i64 r0.1, .int .i64 r0.2] 69))) := (B0.out.trans (hg.below.mono (by omega))).alloc (by omega) _
    have P1 : Hid (Cl (w1.alloc (.cells #[.int .i64 r0.1, .int .i64 r0.2] 69)) w1.heap.size #[.int .i64 r0.1, .int .i64 r0.2] 69) := Cl.new _ _ _
    have hz2 : w1.heap.size < (w1.alloc (.cells #[.int .i64 r0.1, .int .i64 r0.2] 69)).heap.size := by simp
    clear hg C B0
    generalize w1.alloc (.cells #[.int .i64 r0.1, .int .i64 r0.2] 69) = W1 at B1 P1 hz2 ⊢
    generalize w1.heap.size = p at *
    go_loopg [7, 8, 9] l.length (fun kx s7 s8 s9 wr => ∃ (i : Nat) (d : Bool) (ao' : Option Addr) (n' c' : Nat) (r : Pr) (out : List Pr), s7 = .slice ao' n' c' ∧ s8 = .bool d ∧ s9 = .int .i64 i ∧ i ≤ l.length ∧ l.length - i ≤ kx ∧ 0 ≤ r.1 ∧ r.1 ≤ r.2 ∧ r.2 ≤ 4294967295 ∧ p < wr.heap.size ∧ Aside (OwnP (p + 1) wr (.slice ao' n' c') out) ∧ Hid (Below w.heap.size w wr) ∧ Hid (Cl wr p #[.int .i64 r.1, .int .i64 r.2] 69) ∧ Hid (out ++ putGo r d (l.drop i) = putL l x) ∧ out.length ≤ 2 * i)
    case atStart => exact ⟨0, false, none, 0, 0, r0, [], rfl, rfl, rfl, Nat.zero_le _, Nat.le_refl _, BR.1, hok, BR.2, hz2, OwnP.empty _ _, B1, P1, EP.out.symm, Nat.zero_le _⟩
    case round =>
      clear B1 P1 hz2 BR hok EP
      obtain ⟨i, d, ao', n', c', r, out, rfl, rfl, rfl, hi, hki, r1, r2, r3, hp, HO, HB, HP, HE, hlen⟩ := hrel
      by_cases hil : i < l.length
      · have hilz : (i : Int) < (l.length : Int) := by omega
        obtain ⟨b, off, rfl, hb, x1, x2⟩ := row_at H3.out i hil HB.out
        have T : Hid (l.drop i = l[i]! :: l.drop (i + 1)) := drop_here hil
        obtain ⟨y1, y2, y3⟩ := HC.out.1 l[i]! (bang_mem hil)
        generalize l[i]! = y at *
        have c0 : (wr.alloc (.cells #[.int .i64 y.1, .int .i64 y.2] 69)).cell? ⟨p, 0, none⟩ = some (.int .i64 r.1) := Lib.cell?_alloc_some _ HP.out.two.1
        have c1 : (wr.alloc (.cells #[.int .i64 y.1, .int .i64 y.2] 69)).cell? ⟨p, 1, none⟩ = some (.int .i64 r.2) := Lib.cell?_alloc_some _ HP.out.two.2
        have q0 : (wr.alloc (.cells #[.int .i64 y.1, .int .i64 y.2] 69)).cell? ⟨wr.heap.size, 0, none⟩ = some (.int .i64 y.1) := by simp
        have q1 : (wr.alloc (.cells #[.int .i64 y.1, .int .i64 y.2] 69)).cell? ⟨wr.heap.size, 1, none⟩ = some (.int .i64 y.2) := by simp
        have P2 : Hid (Cl (wr.alloc (.cells #[.int .i64 y.1, .int .i64 y.2] 69)) p #[.int .i64 r.1, .int .i64 r.2] 69) := HP.out.alloc _
        have Y2 : Hid (Cl (wr.alloc (.cells #[.int .i64 y.1, .int .i64 y.2] 69)) wr.heap.size #[.int .i64 y.1, .int .i64 y.2] 69) := Cl.new _ _ _
        have O2 : Aside (OwnP (p + 1) (wr.alloc (.cells #[.int .i64 y.1, .int .i64 y.2] 69)) (.slice ao' n' c') out) := HO.out.alloc _
        have N2 : Hid ((Value.slice ao' n' c').ownBlock ≠ some wr.heap.size) := HO.out.other (Nat.le_refl _)
        have B2 : Hid (Below w.heap.size w (wr.alloc (.cells #[.int .i64 y.1, .int .i64 y.2] 69))) := HB.out.alloc (HB.out.size) _
        have hs2 : (wr.alloc (.cells #[.int .i64 y.1, .int .i64 y.2] 69)).heap.size = wr.heap.size + 1 := by simp
        have e1 : wrap64 (y.2 + 1) = y.2 + 1 := w64 (by omega) (by omega)
        have e2 : wrap64 (r.2 + 1) = r.2 + 1 := w64 (by omega) (by omega)
        by_cases g1 : y.2 + 1 < r.1
        · have E2 : Hid ((out ++ [y]) ++ putGo r d (l.drop (i + 1)) = putL l x) := by
            show _ = _
            rw [← HE.out, T.out, putGo, if_pos g1, List.append_assoc]; rfl
          clear HO HB HP HE
          go_wp2_with (at_builtin; refine app_run rfl _ _ rfl (p + 1) _ out rfl (O2.out.alloc _) (wr.heap.size + 1) 0 1 rfl y (by simp) (by simp) (by omega) (by simp; omega) ?_)
          intro ao2 n2 c2 w3 HO3 HB3 HK3
          have O4 : Aside (OwnP (p + 1) w3 (.slice ao2 n2 c2) (out ++ [y])) := HO3
          have K3 : Hid (Below (p + 1) (wr.alloc (.cells #[.int .i64 y.1, .int .i64 y.2] 69)) w3) := HB3 _ ((Below.refl _ _).alloc (by omega) _)
          have P4 : Hid (Cl w3 p #[.int .i64 r.1, .int .i64 r.2] 69) := P2.out.below K3.out (by omega)
          have B4 : Hid (Below w.heap.size w w3) := B2.out.trans (K3.out.mono (by omega))
          have hp4 : p < w3.heap.size := P4.out.lt
          clear HO3 HB3 HK3 K3
          go_wp2
          go_roundg (l.length - (i + 1))
          case measure => omega
          case rel => exact ⟨i + 1, d, ao2, n2, c2, r, out ++ [y], rfl, rfl, by go_num, by omega, Nat.le_refl _, r1, r2, r3, hp4, O4, B4, P4, E2, by simp; omega⟩
        · by_cases g2 : r.2 + 1 < y.1
          · cases d with
            | true =>
              have E2 : Hid ((out ++ [y]) ++ putGo r true (l.drop (i + 1)) = putL l x) := by
                show _ = _
                rw [← HE.out, T.out, putGo, if_neg g1, if_pos g2, if_pos rfl, List.append_assoc]; rfl
              clear HO HB HP HE
              go_wp2_with (at_builtin; refine app_run rfl _ _ rfl (p + 1) _ out rfl (O2.out.alloc _) (wr.heap.size + 1) 0 1 rfl y (by simp) (by simp) (by omega) (by simp; omega) ?_)
              intro ao2 n2 c2 w3 HO3 HB3 HK3
              have O4 : Aside (OwnP (p + 1) w3 (.slice ao2 n2 c2) (out ++ [y])) := HO3
              have K3 : Hid (Below (p + 1) (wr.alloc (.cells #[.int .i64 y.1, .int .i64 y.2] 69)) w3) := HB3 _ ((Below.refl _ _).alloc (by omega) _)
              have P4 : Hid (Cl w3 p #[.int .i64 r.1, .int .i64 r.2] 69) := P2.out.below K3.out (by omega)
              have B4 : Hid (Below w.heap.size w w3) := B2.out.trans (K3.out.mono (by omega))
              have hp4 : p < w3.heap.size := P4.out.lt
              clear HO3 HB3 HK3 K3
              go_wp2
              go_roundg (l.length - (i + 1))
              case measure => omega
              case rel => exact ⟨i + 1, true, ao2, n2, c2, r, out ++ [y], rfl, rfl, by go_num, by omega, Nat.le_refl _, r1, r2, r3, hp4, O4, B4, P4, E2, by simp; omega⟩
            | false =>
              have E2 : Hid (((out ++ [r]) ++ [y]) ++ putGo r true (l.drop (i + 1)) = putL l x) := by
                show _ = _
                rw [← HE.out, T.out, putGo, if_neg g1, if_pos g2, if_neg (by simp), List.append_assoc, List.append_assoc]; rfl
              clear HO HB HP HE
              go_wp2_with (at_builtin; refine app_run rfl _ _ rfl (p + 1) _ out rfl (O2.out.alloc _) (wr.heap.size + 1) 0 1 rfl r (by simp) (by simp) (by omega) (by simp; omega) ?_)
              intro ao2 n2 c2 w3 HO3 HB3 HK3
              have O4 : Aside (OwnP (p + 1) w3 (.slice ao2 n2 c2) (out ++ [r])) := HO3
              have K3 : Hid (Below (p + 1) (wr.alloc (.cells #[.int .i64 y.1, .int .i64 y.2] 69)) w3) := HB3 _ ((Below.refl _ _).alloc (by omega) _)
              have P4 : Hid (Cl w3 p #[.int .i64 r.1, .int .i64 r.2] 69) := P2.out.below K3.out (by omega)
              have B4 : Hid (Below w.heap.size w w3) := B2.out.trans (K3.out.mono (by omega))
              have Y4 : Cl w3 wr.heap.size #[.int .i64 y.1, .int .i64 y.2] 69 := (HK3 wr.heap.size (by omega) N2.out).trans (Y2.out.alloc _)
              have y41 := Y4.two.1
              have y42 := Y4.two.2
              have hs4 : wr.heap.size + 1 ≤ w3.heap.size := Y4.lt
              clear HO3 HB3 HK3 K3 c0 c1 q0 q1 Y4
              have hlen2 : (out ++ [r]).length ≤ 2 * i + 1 := by simp; omega
              obtain ⟨o2, ho2⟩ : ∃ o2, out ++ [r] = o2 := ⟨_, rfl⟩
              rw [ho2] at O4 E2 hlen2
              clear ho2
              go_wp2_with (at_builtin; refine app_run rfl _ _ rfl (p + 1) _ o2 rfl (O4.out.alloc _) w3.heap.size 0 1 rfl y (by simp) (by simp) (by omega) (by simp; omega) ?_)
              intro ao5 n5 c5 w5 HO5 HB5 _
              have O6 : Aside (OwnP (p + 1) w5 (.slice ao5 n5 c5) (o2 ++ [y])) := HO5
              have K5 : Hid (Below (p + 1) w3 w5) := HB5 _ ((Below.refl _ _).alloc (by omega) _)
              have P6 : Hid (Cl w5 p #[.int .i64 r.1, .int .i64 r.2] 69) := P4.out.below K5.out (by omega)
              have B6 : Hid (Below w.heap.size w w5) := B4.out.trans (K5.out.mono (by omega))
              have hp6 : p < w5.heap.size := P6.out.lt
              clear HO5 HB5 K5 O4 P4 B4
              go_wp2
              go_roundg (l.length - (i + 1))
              case measure => omega
              case rel => exact ⟨i + 1, true, ao5, n5, c5, r, o2 ++ [y], rfl, rfl, by go_num, by omega, Nat.le_refl _, r1, r2, r3, hp6, O6, B6, P6, E2, by simp; omega⟩
          · have E2 : Hid (out ++ putGo (min r.1 y.1, max r.2 y.2) d (l.drop (i + 1)) = putL l x) := by
              show _ = _
              rw [← HE.out, T.out, putGo, if_neg g1, if_neg g2]
            have f0 : (wr.alloc (.cells #[.int .i64 y.1, .int .i64 y.2] 69)).frozen? ⟨p, 0, none⟩ = false := P2.out.frozen 0
            have f1 : (wr.alloc (.cells #[.int .i64 y.1, .int .i64 y.2] 69)).frozen? ⟨p, 1, none⟩ = false := P2.out.frozen 1
            clear HO HB HP HE
            go_upto_region 10 with fail
            generalize wr.alloc (.cells #[.int .i64 y.1, .int .i64 y.2] 69) = w2 at *
            go_wp2
            go_roundg (l.length - (i + 1))
            case measure => omega
            case rel =>
              refine ⟨i + 1, d, ao', n', c', (min r.1 y.1, max r.2 y.2), out, rfl, rfl, by go_num, by omega, Nat.le_refl _, by simp only; omega, by simp only; omega, by simp only; omega, by simp; omega, ?_, ?_, P2.out.set2 _ _, E2, by omega⟩
              · exact ownsRow_setCell_other (ownsRow_setCell_other O2.out (O2.out.ne (by simp)) _) (O2.out.ne (by simp)) _
              · exact (B2.out.setCell (p := ⟨p, 0, none⟩) (by simp; omega) _).setCell (p := ⟨p, 1, none⟩) (by simp; omega) _
      · have hilz : ¬ (i : Int) < (l.length : Int) := by omega
        obtain rfl : i = l.length := by omega
        rw [List.drop_length] at HE
        cases d with
        | true =>
          have E2 : Hid (out = putL l x) := by
            show _ = _
            rw [← HE.out]; simp [putGo]
          clear HE
          go_wp2
          go_ret
          exact ⟨_, rfl, by rw [← E2.out]; exact HO.out.own.row, HB.out⟩
        | false =>
          have E2 : Hid (out ++ [r] = putL l x) := by
            show _ = _
            rw [← HE.out]; simp [putGo]
          have c0 := HP.out.two.1
          have c1 := HP.out.two.2
          have hbs := HB.out.size
          clear HE
          go_wp2_with (at_builtin; refine app_run rfl _ _ rfl (p + 1) _ out rfl (HO.out.alloc _) wr.heap.size 0 1 rfl r (by simp) (by simp) (by omega) (by simp; omega) ?_)
          intro ao2 n2 c2 w3 HO3 HB3 _
          have O4 : Aside (OwnP (p + 1) w3 (.slice ao2 n2 c2) (out ++ [r])) := HO3
          have B4 : Hid (Below w.heap.size w w3) := HB.out.trans ((HB3 _ ((Below.refl _ wr).alloc (by omega) _)).mono (by omega))
          clear HO3 HB3
          go_wp2
          go_ret
          exact ⟨_, rfl, by rw [← E2.out]; exact O4.out.own.row, B4.out⟩
  · rw [decide_eq_false hok] at C
    have EP : Hid (putL l x = l) := by show _ = _; unfold putL; rw [hr0, if_neg hok]
    clear hr0
    go_enter Tryz.func54, Tryz.ntmps54
    go_wp2_with (go_at_call 83; refine Calls.mono C.out ?_; rintro e w1 ⟨rfl, hg⟩)
    have B1 : Below w.heap.size w (w1.alloc (.cells #[.int .i64 r0.1, .int .i64 r0.2] 69)) := (B0.out.trans (hg.below.mono (by omega))).alloc (by have := hg.below.size; omega) _
    go_ret
    exact ⟨_, rfl, by rw [EP.out]; exact HR.out.below B1, B1⟩
end

/-! RnRef2 -/
section
open Go.Shelf Go.RowKit Go.Lib Go.Sort

theorem Row.drew {w : World} {v : Value} {l : List Pr} (h : Row encP 2 w v l) : Row encP 2 w.drew v l := h.below (Below.refl _ w).drew

theorem nmL_snoc (l : List Pr) (x : Pr) : nmL (l ++ [x]) = putL (nmL l) x := by rw [nmL, List.foldl_append]; rfl
end

end Go.Proofs.YtnngfkjbbedkpaaGreatDoor

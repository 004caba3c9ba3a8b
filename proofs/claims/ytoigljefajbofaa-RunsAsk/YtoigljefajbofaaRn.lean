/-
  Plain facts on sets of numbers as runs: which numbers a list of runs stands for, the one way to write a set, and that two lists in the one way that stand for one set are the same.
-/
import Derived.Sort.Statements
import Derived.Lib.Small
namespace Go.Proofs.Ytoigljefajbofaa

abbrev Pr := Int × Int

/-- n is one of the set that l stands for. -/
def InR (l : List Pr) (n : Int) : Prop := 0 ≤ n ∧ n ≤ 4294967295 ∧ ∃ r ∈ l, r.1 ≤ n ∧ n ≤ r.2

def inP (n : Int) (r : Pr) : Bool := decide (r.1 ≤ n) && decide (n ≤ r.2)
def hasB (l : List Pr) (n : Int) : Bool := (decide (0 ≤ n) && decide (n ≤ 4294967295)) && l.any (inP n)
theorem hasB_iff (l : List Pr) (n : Int) : hasB l n = true ↔ InR l n := by
  unfold hasB InR inP
  simp only [Bool.and_eq_true, decide_eq_true_eq, List.any_eq_true]
  constructor
  · rintro ⟨⟨h1, h2⟩, h3⟩; exact ⟨h1, h2, h3⟩
  · rintro ⟨h1, h2, h3⟩; exact ⟨⟨h1, h2⟩, h3⟩
theorem hasB_yes {l : List Pr} {n : Int} (h : InR l n) : hasB l n = true := (hasB_iff l n).2 h
theorem hasB_no {l : List Pr} {n : Int} (h : ¬ InR l n) : hasB l n = false := by
  cases e : hasB l n with
  | false => rfl
  | true => exact absurd ((hasB_iff l n).1 e) h
theorem hasB_eq {l : List Pr} {n : Int} {b : Bool} (h : InR l n ↔ b = true) : hasB l n = b := by
  cases b with
  | true => exact hasB_yes (h.2 rfl)
  | false => exact hasB_no fun k => by have := h.1 k; cases this

/-- In the one way: rising, none empty, between two runs at least one number is missing. -/
def Cn (l : List Pr) : Prop := (∀ r ∈ l, 0 ≤ r.1 ∧ r.1 ≤ r.2 ∧ r.2 ≤ 4294967295) ∧ l.Pairwise fun r s => r.2 + 1 < s.1

theorem Cn.nil : Cn [] := ⟨fun _ h => by simp at h, List.Pairwise.nil⟩

theorem cn_cons {r : Pr} {l : List Pr} : Cn (r :: l) ↔ (0 ≤ r.1 ∧ r.1 ≤ r.2 ∧ r.2 ≤ 4294967295) ∧ (∀ s ∈ l, r.2 + 1 < s.1) ∧ Cn l := by
  unfold Cn
  rw [List.pairwise_cons]
  constructor
  · rintro ⟨h1, h2, h3⟩
    exact ⟨h1 r (by simp), h2, fun s hs => h1 s (by simp [hs]), h3⟩
  · rintro ⟨h1, h2, h3, h4⟩
    refine ⟨fun s hs => ?_, h2, h4⟩
    rcases List.mem_cons.1 hs with rfl | hs
    · exact h1
    · exact h3 s hs

theorem cn_snoc {r : Pr} {l : List Pr} : Cn (l ++ [r]) ↔ Cn l ∧ (∀ s ∈ l, s.2 + 1 < r.1) ∧ (0 ≤ r.1 ∧ r.1 ≤ r.2 ∧ r.2 ≤ 4294967295) := by
  unfold Cn
  rw [List.pairwise_append]
  constructor
  · rintro ⟨h1, h2, _, h4⟩
    exact ⟨⟨fun s hs => h1 s (by simp [hs]), h2⟩, fun s hs => h4 s hs r (by simp), h1 r (by simp)⟩
  · rintro ⟨⟨h1, h2⟩, h3, h4⟩
    refine ⟨fun s hs => ?_, h2, by simp, fun s hs t ht => ?_⟩
    · rcases List.mem_append.1 hs with hs | hs
      · exact h1 s hs
      · rw [List.mem_singleton.1 hs]; exact h4
    · rw [List.mem_singleton.1 ht]; exact h3 s hs

theorem inR_nil (n : Int) : ¬ InR [] n := fun ⟨_, _, r, h, _⟩ => by simp at h

theorem inR_cons (r : Pr) (l : List Pr) (n : Int) : InR (r :: l) n ↔ (0 ≤ n ∧ n ≤ 4294967295 ∧ r.1 ≤ n ∧ n ≤ r.2) ∨ InR l n := by
  unfold InR
  constructor
  · rintro ⟨h1, h2, s, hs, h3, h4⟩
    rcases List.mem_cons.1 hs with rfl | hs
    · exact Or.inl ⟨h1, h2, h3, h4⟩
    · exact Or.inr ⟨h1, h2, s, hs, h3, h4⟩
  · rintro (⟨h1, h2, h3, h4⟩ | ⟨h1, h2, s, hs, h3, h4⟩)
    · exact ⟨h1, h2, r, by simp, h3, h4⟩
    · exact ⟨h1, h2, s, by simp [hs], h3, h4⟩

theorem inR_append (l m : List Pr) (n : Int) : InR (l ++ m) n ↔ InR l n ∨ InR m n := by
  induction l with
  | nil => simp [inR_nil]
  | cons r l ih => rw [List.cons_append, inR_cons, inR_cons, ih]; exact or_assoc.symm

theorem inR_one (r : Pr) (n : Int) : InR [r] n ↔ 0 ≤ n ∧ n ≤ 4294967295 ∧ r.1 ≤ n ∧ n ≤ r.2 := by
  rw [inR_cons]; simp [inR_nil]

/-- A member of a tail lies behind the head. -/
theorem Cn.tail_gt {r : Pr} {l : List Pr} (h : Cn (r :: l)) {n : Int} (hn : InR l n) : r.2 + 1 < n := by
  obtain ⟨_, h2, _⟩ := cn_cons.1 h
  obtain ⟨_, _, s, hs, h3, _⟩ := hn
  have := h2 s hs
  omega

theorem Cn.head_le {r : Pr} {l : List Pr} (h : Cn (r :: l)) {n : Int} (hn : InR (r :: l) n) : r.1 ≤ n := by
  obtain ⟨h1, _, _⟩ := cn_cons.1 h
  rcases (inR_cons r l n).1 hn with h2 | h2
  · omega
  · have := h.tail_gt h2; omega

theorem Cn.head_in {r : Pr} {l : List Pr} (h : Cn (r :: l)) {n : Int} (h1 : r.1 ≤ n) (h2 : n ≤ r.2) : InR (r :: l) n := by
  obtain ⟨h3, _, _⟩ := cn_cons.1 h
  exact (inR_cons r l n).2 (Or.inl ⟨by omega, by omega, h1, h2⟩)

theorem Cn.in_tail {r : Pr} {l : List Pr} (h : Cn (r :: l)) (n : Int) : InR l n ↔ InR (r :: l) n ∧ r.2 < n := by
  constructor
  · intro hn
    have := h.tail_gt hn
    exact ⟨(inR_cons r l n).2 (Or.inr hn), by omega⟩
  · rintro ⟨h1, h2⟩
    rcases (inR_cons r l n).1 h1 with h3 | h3
    · omega
    · exact h3

/-- Two lists in the one way that stand for one set are the same. -/
theorem cn_ext : ∀ (l m : List Pr), Cn l → Cn m → (∀ n, InR l n ↔ InR m n) → l = m
  | [], [], _, _, _ => rfl
  | [], s :: m, _, hm, h => by
    obtain ⟨h1, _, _⟩ := cn_cons.1 hm
    exact absurd ((h s.1).2 (hm.head_in (Int.le_refl _) (by omega))) (inR_nil _)
  | r :: l, [], hl, _, h => by
    obtain ⟨h1, _, _⟩ := cn_cons.1 hl
    exact absurd ((h r.1).1 (hl.head_in (Int.le_refl _) (by omega))) (inR_nil _)
  | r :: l, s :: m, hl, hm, h => by
    have hr := (cn_cons.1 hl).1
    have hs := (cn_cons.1 hm).1
    have e1 : r.1 = s.1 := by
      have a := hm.head_le ((h r.1).1 (hl.head_in (Int.le_refl _) (by omega)))
      have b := hl.head_le ((h s.1).2 (hm.head_in (Int.le_refl _) (by omega)))
      omega
    have e2 : r.2 = s.2 := by
      rcases Int.lt_trichotomy r.2 s.2 with c | c | c
      · have a := (h (r.2 + 1)).2 (hm.head_in (by omega) (by omega))
        rcases (inR_cons r l _).1 a with a | a
        · omega
        · have := hl.tail_gt a; omega
      · exact c
      · have a := (h (s.2 + 1)).1 (hl.head_in (by omega) (by omega))
        rcases (inR_cons s m _).1 a with a | a
        · omega
        · have := hm.tail_gt a; omega
    have e : r = s := by
      obtain ⟨a, b⟩ := r
      obtain ⟨c, d⟩ := s
      rw [Prod.mk.injEq]
      exact ⟨e1, e2⟩
    subst e
    rw [cn_ext l m (cn_cons.1 hl).2.2 (cn_cons.1 hm).2.2 fun n => by rw [hl.in_tail, hm.in_tail, h n]]

/-! ### The document's functions, plainly -/

def clipR (r : Pr) : Pr := (max r.1 0, min r.2 4294967295)

def putGo (r : Pr) (done : Bool) : List Pr → List Pr
  | [] => if done then [] else [r]
  | y :: l =>
    if y.2 + 1 < r.1 then y :: putGo r done l
    else if r.2 + 1 < y.1 then (if done then y :: putGo r done l else r :: y :: putGo r true l)
    else putGo (min r.1 y.1, max r.2 y.2) done l

/-- A list in the one way, with one run more. -/
def putL (l : List Pr) (x : Pr) : List Pr := if (clipR x).1 ≤ (clipR x).2 then putGo (clipR x) false l else l

/-- In the one way. -/
def nmL (l : List Pr) : List Pr := l.foldl putL []

def unL (a b : List Pr) : List Pr := nmL (a ++ b)

def cutL (out : List Pr) (r : Pr) : List Pr := out.foldl (fun nx y => putL (putL nx (y.1, min y.2 (r.1 - 1))) (max y.1 (r.2 + 1), y.2)) []
def cutS (out : List Pr) (x : Pr) : List Pr := if (clipR x).1 ≤ (clipR x).2 then cutL out (clipR x) else out

def mnL (a b : List Pr) : List Pr := b.foldl cutS (nmL a)
def meL (a b : List Pr) : List Pr := mnL a (mnL a b)

def cntL (s : List Pr) : Int := s.foldl (fun n r => n + r.2 - r.1 + 1) 0

theorem putGo_true : ∀ (l : List Pr) (r : Pr), r.1 ≤ r.2 → Cn l → (∀ y ∈ l, r.2 + 1 < y.1) → putGo r true l = l
  | [], _, _, _, _ => rfl
  | y :: l, r, hr, hl, h => by
    have h1 := h y (by simp)
    obtain ⟨h2, _, h4⟩ := cn_cons.1 hl
    rw [putGo, if_neg (by omega), if_pos h1, if_pos rfl, putGo_true l r hr h4 fun z hz => h z (by simp [hz])]

theorem putGo_ge : ∀ (l : List Pr) (r : Pr) (z : Pr), r.1 ≤ r.2 → Cn l → z ∈ putGo r false l → r.1 ≤ z.1 ∨ ∃ y ∈ l, y.1 ≤ z.1
  | [], r, z, _, _, hz => by
    simp [putGo] at hz
    rw [hz]; exact Or.inl (Int.le_refl _)
  | y :: l, r, z, hr, hl, hz => by
    obtain ⟨h2, h3, h4⟩ := cn_cons.1 hl
    rw [putGo] at hz
    split at hz
    · rcases List.mem_cons.1 hz with rfl | hz
      · exact Or.inr ⟨z, by simp, Int.le_refl _⟩
      · rcases putGo_ge l r z hr h4 hz with h | ⟨s, hs, h⟩
        · exact Or.inl h
        · exact Or.inr ⟨s, by simp [hs], h⟩
    · split at hz
      · rw [if_neg (by simp), putGo_true l r hr h4 fun s hs => by have := h3 s hs; omega] at hz
        rcases List.mem_cons.1 hz with rfl | hz
        · exact Or.inl (Int.le_refl _)
        · exact Or.inr ⟨z, hz, Int.le_refl _⟩
      · rcases putGo_ge l _ z (by simp only; omega) h4 hz with h | ⟨s, hs, h⟩
        · simp only at h
          rcases Int.le_total r.1 y.1 with c | c
          · exact Or.inl (by omega)
          · exact Or.inr ⟨y, by simp, by omega⟩
        · exact Or.inr ⟨s, by simp [hs], h⟩

theorem putGo_cn : ∀ (l : List Pr) (r : Pr), 0 ≤ r.1 → r.1 ≤ r.2 → r.2 ≤ 4294967295 → Cn l → Cn (putGo r false l) ∧ ∀ n, InR (putGo r false l) n ↔ InR (r :: l) n
  | [], r, h0, hr, h1, _ => by
    refine ⟨?_, fun n => Iff.rfl⟩
    show Cn [r]
    exact cn_cons.2 ⟨⟨h0, hr, h1⟩, fun _ h => by simp at h, Cn.nil⟩
  | y :: l, r, h0, hr, h1, hl => by
    obtain ⟨h2, h3, h4⟩ := cn_cons.1 hl
    rw [putGo]
    split
    · obtain ⟨c1, c2⟩ := putGo_cn l r h0 hr h1 h4
      refine ⟨cn_cons.2 ⟨h2, fun s hs => ?_, c1⟩, fun n => ?_⟩
      · rcases putGo_ge l r s hr h4 hs with h | ⟨t, ht, h⟩
        · omega
        · have := h3 t ht; omega
      · rw [inR_cons, c2 n, inR_cons, inR_cons, inR_cons]
        constructor
        · rintro (h | h | h)
          · exact Or.inr (Or.inl h)
          · exact Or.inl h
          · exact Or.inr (Or.inr h)
        · rintro (h | h | h)
          · exact Or.inr (Or.inl h)
          · exact Or.inl h
          · exact Or.inr (Or.inr h)
    · split
      · rw [if_neg (by simp), putGo_true l r hr h4 fun s hs => by have := h3 s hs; omega]
        refine ⟨cn_cons.2 ⟨⟨h0, hr, h1⟩, fun s hs => ?_, hl⟩, fun n => Iff.rfl⟩
        rcases List.mem_cons.1 hs with rfl | hs
        · assumption
        · have := h3 s hs; omega
      · obtain ⟨c1, c2⟩ := putGo_cn l (min r.1 y.1, max r.2 y.2) (by simp only; omega) (by simp only; omega) (by simp only; omega) h4
        refine ⟨c1, fun n => ?_⟩
        rw [c2 n, inR_cons, inR_cons, inR_cons]
        simp only
        constructor
        · rintro (h | h)
          · by_cases k : r.1 ≤ n ∧ n ≤ r.2
            · exact Or.inl ⟨h.1, h.2.1, k.1, k.2⟩
            · exact Or.inr (Or.inl (by omega))
          · exact Or.inr (Or.inr h)
        · rintro (h | h | h)
          · exact Or.inl (by omega)
          · exact Or.inl (by omega)
          · exact Or.inr h

theorem putGo_length : ∀ (l : List Pr) (r : Pr) (d : Bool), (putGo r d l).length ≤ l.length + (if d then 0 else 1)
  | [], r, d => by cases d <;> simp [putGo]
  | y :: l, r, d => by
    rw [putGo]
    split
    · have := putGo_length l r d; simp only [List.length_cons]; omega
    · split
      · cases d with
        | true => have := putGo_length l r true; simp at *; omega
        | false => have := putGo_length l r true; simp at *; omega
      · have := putGo_length l (min r.1 y.1, max r.2 y.2) d; simp only [List.length_cons]; omega

theorem inR_clip (x : Pr) (l : List Pr) (n : Int) : InR (clipR x :: l) n ↔ InR (x :: l) n := by
  rw [inR_cons, inR_cons]
  simp only [clipR]
  constructor
  · rintro (h | h)
    · exact Or.inl (by omega)
    · exact Or.inr h
  · rintro (h | h)
    · exact Or.inl (by omega)
    · exact Or.inr h

theorem putL_cn (l : List Pr) (x : Pr) (h : Cn l) : Cn (putL l x) ∧ ∀ n, InR (putL l x) n ↔ InR (x :: l) n := by
  unfold putL
  by_cases c : (clipR x).1 ≤ (clipR x).2
  · rw [if_pos c]
    obtain ⟨c1, c2⟩ := putGo_cn l (clipR x) (by simp only [clipR]; omega) c (by simp only [clipR]; omega) h
    exact ⟨c1, fun n => by rw [c2 n, inR_clip]⟩
  · rw [if_neg c]
    refine ⟨h, fun n => ?_⟩
    rw [inR_cons]
    constructor
    · exact Or.inr
    · rintro (k | k)
      · simp only [clipR] at c; omega
      · exact k

theorem putL_length (l : List Pr) (x : Pr) : (putL l x).length ≤ l.length + 1 := by
  unfold putL
  split
  · exact putGo_length l _ false
  · omega

theorem fold_put_cn : ∀ (l m : List Pr), Cn m → Cn (l.foldl putL m) ∧ (∀ n, InR (l.foldl putL m) n ↔ InR l n ∨ InR m n) ∧ (l.foldl putL m).length ≤ m.length + l.length
  | [], m, h => ⟨h, fun n => by simp [inR_nil], by simp⟩
  | x :: l, m, h => by
    obtain ⟨c1, c2⟩ := putL_cn m x h
    obtain ⟨d1, d2, d3⟩ := fold_put_cn l (putL m x) c1
    refine ⟨d1, fun n => ?_, ?_⟩
    · rw [List.foldl_cons, d2 n, c2 n, inR_cons, inR_cons]
      constructor
      · rintro (k | k | k)
        · exact Or.inl (Or.inr k)
        · exact Or.inl (Or.inl k)
        · exact Or.inr k
      · rintro ((k | k) | k)
        · exact Or.inr (Or.inl k)
        · exact Or.inl k
        · exact Or.inr (Or.inr k)
    · have := putL_length m x
      rw [List.foldl_cons, List.length_cons]
      omega

theorem nmL_cn (l : List Pr) : Cn (nmL l) := (fold_put_cn l [] Cn.nil).1
theorem nmL_in (l : List Pr) (n : Int) : InR (nmL l) n ↔ InR l n := by
  rw [nmL, (fold_put_cn l [] Cn.nil).2.1 n]; simp [inR_nil]
theorem nmL_length (l : List Pr) : (nmL l).length ≤ l.length := by
  have := (fold_put_cn l [] Cn.nil).2.2
  rw [nmL]; simpa using this

theorem eq_nmL {s l : List Pr} (h : Cn s) (k : ∀ n, InR s n ↔ InR l n) : s = nmL l := cn_ext _ _ h (nmL_cn l) fun n => by rw [k n, nmL_in]

theorem nmL_of_cn {s : List Pr} (h : Cn s) : nmL s = s := (eq_nmL h fun _ => Iff.rfl).symm

theorem cut_fold : ∀ (l m : List Pr) (r : Pr), 0 ≤ r.1 → r.2 ≤ 4294967295 → r.1 ≤ r.2 → Cn m → (∀ y ∈ l, 0 ≤ y.1 ∧ y.1 ≤ y.2 ∧ y.2 ≤ 4294967295) →
    Cn (l.foldl (fun nx y => putL (putL nx (y.1, min y.2 (r.1 - 1))) (max y.1 (r.2 + 1), y.2)) m) ∧ (∀ n, InR (l.foldl (fun nx y => putL (putL nx (y.1, min y.2 (r.1 - 1))) (max y.1 (r.2 + 1), y.2)) m) n ↔ (InR l n ∧ ¬ (r.1 ≤ n ∧ n ≤ r.2)) ∨ InR m n) ∧
    (l.foldl (fun nx y => putL (putL nx (y.1, min y.2 (r.1 - 1))) (max y.1 (r.2 + 1), y.2)) m).length ≤ m.length + 2 * l.length
  | [], m, _, _, _, _, hm, _ => ⟨hm, fun n => by simp [inR_nil], by simp⟩
  | y :: l, m, r, h0, h1, h2, hm, hy => by
    obtain ⟨c1, c2⟩ := putL_cn m (y.1, min y.2 (r.1 - 1)) hm
    obtain ⟨d1, d2⟩ := putL_cn _ (max y.1 (r.2 + 1), y.2) c1
    obtain ⟨e1, e2, e3⟩ := cut_fold l _ r h0 h1 h2 d1 fun z hz => hy z (by simp [hz])
    refine ⟨e1, fun n => ?_, ?_⟩
    · rw [List.foldl_cons, e2 n, d2 n, inR_cons, c2 n, inR_cons, inR_cons]
      simp only
      constructor
      · rintro (⟨k1, k2⟩ | k | k | k)
        · exact Or.inl ⟨Or.inr k1, k2⟩
        · exact Or.inl ⟨Or.inl (by omega), by omega⟩
        · exact Or.inl ⟨Or.inl (by omega), by omega⟩
        · exact Or.inr k
      · rintro (⟨k1 | k1, k2⟩ | k)
        · by_cases c : n < r.1
          · exact Or.inr (Or.inr (Or.inl (by omega)))
          · exact Or.inr (Or.inl (by omega))
        · exact Or.inl ⟨k1, k2⟩
        · exact Or.inr (Or.inr (Or.inr k))
    · have a := putL_length m (y.1, min y.2 (r.1 - 1))
      have b := putL_length (putL m (y.1, min y.2 (r.1 - 1))) (max y.1 (r.2 + 1), y.2)
      rw [List.foldl_cons, List.length_cons]
      omega

theorem cutS_cn (out : List Pr) (x : Pr) (h : Cn out) : Cn (cutS out x) ∧ (∀ n, InR (cutS out x) n ↔ InR out n ∧ ¬ InR [x] n) := by
  unfold cutS cutL
  by_cases c : (clipR x).1 ≤ (clipR x).2
  · rw [if_pos c]
    obtain ⟨c1, c2, _⟩ := cut_fold out [] (clipR x) (by simp only [clipR]; omega) (by simp only [clipR]; omega) c Cn.nil h.1
    refine ⟨c1, fun n => ?_⟩
    rw [c2 n, inR_one]
    constructor
    · rintro (⟨k1, k2⟩ | k)
      · refine ⟨k1, fun k3 => k2 ?_⟩
        simp only [clipR]; omega
      · exact absurd k (inR_nil _)
    · rintro ⟨k1, k2⟩
      refine Or.inl ⟨k1, fun k3 => k2 ?_⟩
      simp only [clipR] at k3
      have := k1.1
      have := k1.2.1
      omega
  · rw [if_neg c]
    refine ⟨h, fun n => ⟨fun k => ⟨k, fun k2 => ?_⟩, fun k => k.1⟩⟩
    rw [inR_one] at k2
    simp only [clipR] at c
    omega

theorem mn_fold : ∀ (b m : List Pr), Cn m → Cn (b.foldl cutS m) ∧ ∀ n, InR (b.foldl cutS m) n ↔ InR m n ∧ ¬ InR b n
  | [], m, h => ⟨h, fun n => by simp [inR_nil]⟩
  | x :: b, m, h => by
    obtain ⟨c1, c2⟩ := cutS_cn m x h
    obtain ⟨d1, d2⟩ := mn_fold b _ c1
    refine ⟨d1, fun n => ?_⟩
    rw [List.foldl_cons, d2 n, c2 n, inR_one, inR_cons]
    constructor
    · rintro ⟨⟨k1, k2⟩, k3⟩
      exact ⟨k1, fun k => k.elim k2 k3⟩
    · rintro ⟨k1, k2⟩
      exact ⟨⟨k1, fun k => k2 (Or.inl k)⟩, fun k => k2 (Or.inr k)⟩

theorem mnL_cn (a b : List Pr) : Cn (mnL a b) := (mn_fold b _ (nmL_cn a)).1
theorem mnL_in (a b : List Pr) (n : Int) : InR (mnL a b) n ↔ InR a n ∧ ¬ InR b n := by rw [mnL, (mn_fold b _ (nmL_cn a)).2 n, nmL_in]
theorem meL_cn (a b : List Pr) : Cn (meL a b) := mnL_cn _ _
theorem meL_in (a b : List Pr) (n : Int) : InR (meL a b) n ↔ InR a n ∧ InR b n := by
  rw [meL, mnL_in, mnL_in]
  constructor
  · rintro ⟨h1, h2⟩
    refine ⟨h1, ?_⟩
    by_cases c : InR b n
    · exact c
    · exact absurd ⟨h1, c⟩ h2
  · rintro ⟨h1, h2⟩
    exact ⟨h1, fun h => h.2 h2⟩
theorem unL_cn (a b : List Pr) : Cn (unL a b) := nmL_cn _
theorem unL_in (a b : List Pr) (n : Int) : InR (unL a b) n ↔ InR a n ∨ InR b n := by rw [unL, nmL_in, inR_append]
theorem unL_length (a b : List Pr) : (unL a b).length ≤ a.length + b.length := by
  have := nmL_length (a ++ b)
  rw [List.length_append] at this
  exact this

theorem eq_mnL {s a b : List Pr} (h : Cn s) (k : ∀ n, InR s n ↔ InR a n ∧ ¬ InR b n) : s = mnL a b := cn_ext _ _ h (mnL_cn a b) fun n => by rw [k n, mnL_in]
theorem eq_meL {s a b : List Pr} (h : Cn s) (k : ∀ n, InR s n ↔ InR a n ∧ InR b n) : s = meL a b := cn_ext _ _ h (meL_cn a b) fun n => by rw [k n, meL_in]

/-! ### Laws of sets -/

theorem un_comm (a b : List Pr) : unL a b = unL b a := cn_ext _ _ (unL_cn _ _) (unL_cn _ _) fun n => by rw [unL_in, unL_in]; exact Or.comm
theorem un_norm (a b : List Pr) : nmL (unL a b) = unL a b := nmL_of_cn (unL_cn a b)
theorem back_norm (a b : List Pr) : unL (mnL a b) (meL a b) = nmL a := eq_nmL (unL_cn _ _) fun n => by
  rw [unL_in, mnL_in, meL_in]
  constructor
  · rintro (h | h) <;> exact h.1
  · intro h
    by_cases c : InR b n
    · exact Or.inr ⟨h, c⟩
    · exact Or.inl ⟨h, c⟩
theorem mn_mn (a b c : List Pr) : mnL (mnL a b) c = mnL a (unL b c) := eq_mnL (mnL_cn _ _) fun n => by
  rw [mnL_in, mnL_in, unL_in]
  constructor
  · rintro ⟨⟨h1, h2⟩, h3⟩
    exact ⟨h1, fun h => h.elim h2 h3⟩
  · rintro ⟨h1, h2⟩
    exact ⟨⟨h1, fun h => h2 (Or.inl h)⟩, fun h => h2 (Or.inr h)⟩
theorem un_un (a b c : List Pr) : unL a (unL b c) = unL (unL a b) c := cn_ext _ _ (unL_cn _ _) (unL_cn _ _) fun n => by
  rw [unL_in, unL_in, unL_in, unL_in]; exact or_assoc.symm
theorem me_un (a b c : List Pr) : meL a (unL b c) = unL (meL a b) (meL a c) := cn_ext _ _ (meL_cn _ _) (unL_cn _ _) fun n => by
  rw [meL_in, unL_in, unL_in, meL_in, meL_in]
  constructor
  · rintro ⟨h1, h2 | h2⟩
    · exact Or.inl ⟨h1, h2⟩
    · exact Or.inr ⟨h1, h2⟩
  · rintro (⟨h1, h2⟩ | ⟨h1, h2⟩)
    · exact ⟨h1, Or.inl h2⟩
    · exact ⟨h1, Or.inr h2⟩

end Go.Proofs.Ytoigljefajbofaa

/-
  Plain facts on the ways of package runs: runs joined that come by where they begin; what a set has not; what both have; how many numbers a set has; its least number taken away.
-/
import Derived.Test.YtoigljefajbofaaRn
namespace Go.Proofs.Ytoigljefajbofaa

/-! ### Norm -/

/-- What counts of each run. -/
def risL (l : List Pr) : List Pr := (l.map clipR).filter fun r => decide (r.1 ≤ r.2)

theorem risL_ok (l : List Pr) : ∀ r ∈ risL l, 0 ≤ r.1 ∧ r.1 ≤ r.2 ∧ r.2 ≤ 4294967295 := fun r hr => by
  obtain ⟨h1, h2⟩ := List.mem_filter.1 hr
  obtain ⟨x, _, rfl⟩ := List.mem_map.1 h1
  rw [decide_eq_true_eq] at h2
  simp only [clipR] at *
  omega

theorem risL_in (l : List Pr) (n : Int) : InR (risL l) n ↔ InR l n := by
  constructor
  · rintro ⟨h1, h2, r, hr, h3, h4⟩
    obtain ⟨hm, _⟩ := List.mem_filter.1 hr
    obtain ⟨x, hx, rfl⟩ := List.mem_map.1 hm
    simp only [clipR] at h3 h4
    exact ⟨h1, h2, x, hx, by omega, by omega⟩
  · rintro ⟨h1, h2, r, hr, h3, h4⟩
    refine ⟨h1, h2, clipR r, List.mem_filter.2 ⟨List.mem_map.2 ⟨r, hr, rfl⟩, ?_⟩, ?_, ?_⟩
    · rw [decide_eq_true_eq]; simp only [clipR]; omega
    · simp only [clipR]; omega
    · simp only [clipR]; omega

theorem risL_length (l : List Pr) : (risL l).length ≤ l.length := by
  have := List.length_filter_le (fun r => decide (r.1 ≤ r.2)) (l.map clipR)
  rw [List.length_map] at this
  exact this

theorem risL_snoc_yes (l : List Pr) (x : Pr) (h : (clipR x).1 ≤ (clipR x).2) : risL (l ++ [x]) = risL l ++ [clipR x] := by
  unfold risL; rw [List.map_append, List.filter_append]; simp [h]
theorem risL_snoc_no (l : List Pr) (x : Pr) (h : ¬ (clipR x).1 ≤ (clipR x).2) : risL (l ++ [x]) = risL l := by
  unfold risL; rw [List.map_append, List.filter_append]; simp [h]

/-- Sets of permuted lists. -/
theorem inR_perm {l m : List Pr} (h : ∀ x, x ∈ l ↔ x ∈ m) (n : Int) : InR l n ↔ InR m n := by
  constructor
  · rintro ⟨h1, h2, r, hr, h3⟩; exact ⟨h1, h2, r, (h r).1 hr, h3⟩
  · rintro ⟨h1, h2, r, hr, h3⟩; exact ⟨h1, h2, r, (h r).2 hr, h3⟩

/-- By where they begin, within the numbers, none empty. -/
def Ris (t : List Pr) : Prop := (∀ r ∈ t, 0 ≤ r.1 ∧ r.1 ≤ r.2 ∧ r.2 ≤ 4294967295) ∧ t.Pairwise fun r s => r.1 ≤ s.1

/-- What Norm has made of the first ones. -/
structure NmSt (done rest set : List Pr) : Prop where
  cn : Cn set
  same : ∀ n, InR set n ↔ InR done n
  le : ∀ r ∈ set, ∀ x ∈ rest, r.1 ≤ x.1
  len : set.length ≤ done.length

theorem NmSt.start (t : List Pr) : NmSt [] t [] := ⟨Cn.nil, fun _ => Iff.rfl, fun _ h => by simp at h, Nat.le_refl _⟩

theorem NmSt.join {done rest pre : List Pr} {a b : Int} {x : Pr} (h : NmSt done (x :: rest) (pre ++ [(a, b)])) (ht : Ris (x :: rest)) (h2 : x.1 ≤ b + 1) : NmSt (done ++ [x]) rest (pre ++ [(a, max b x.2)]) := by
  obtain ⟨c1, c2, c3⟩ := cn_snoc.1 h.cn
  simp only at c2 c3
  have hx := ht.1 x (by simp)
  have hax : a ≤ x.1 := h.le (a, b) (by simp) x (by simp)
  refine ⟨cn_snoc.2 ⟨c1, c2, by simp only; omega⟩, fun n => ?_, fun r hr y hy => ?_, ?_⟩
  · rw [inR_append done, ← h.same n, inR_append, inR_append, inR_one, inR_one, inR_one]
    simp only
    constructor
    · rintro (k | k)
      · exact Or.inl (Or.inl k)
      · by_cases c : n ≤ b
        · exact Or.inl (Or.inr (by omega))
        · exact Or.inr (by omega)
    · rintro ((k | k) | k)
      · exact Or.inl k
      · exact Or.inr (by omega)
      · exact Or.inr (by omega)
  · rcases List.mem_append.1 hr with hr | hr
    · exact h.le r (by simp [hr]) y (by simp [hy])
    · rw [List.mem_singleton.1 hr]
      exact h.le (a, b) (by simp) y (by simp [hy])
  · have := h.len
    simp only [List.length_append, List.length_cons, List.length_nil] at *
    omega

theorem NmSt.add {done rest set : List Pr} {x : Pr} (h : NmSt done (x :: rest) set) (ht : Ris (x :: rest)) (h2 : ∀ r ∈ set, r.2 + 1 < x.1) : NmSt (done ++ [x]) rest (set ++ [x]) := by
  refine ⟨cn_snoc.2 ⟨h.cn, h2, ht.1 x (by simp)⟩, fun n => ?_, fun r hr y hy => ?_, ?_⟩
  · rw [inR_append, inR_append, h.same n]
  · rcases List.mem_append.1 hr with hr | hr
    · exact h.le r hr y (by simp [hy])
    · rw [List.mem_singleton.1 hr]
      exact (List.pairwise_cons.1 ht.2).1 y hy
  · have := h.len
    simp only [List.length_append, List.length_cons, List.length_nil] at *
    omega

/-- Behind the last run's end is behind all. -/
theorem Cn.last_lt {pre : List Pr} {r : Pr} (h : Cn (pre ++ [r])) {m : Int} (hm : r.2 + 1 < m) : ∀ s ∈ pre ++ [r], s.2 + 1 < m := fun s hs => by
  obtain ⟨_, c2, c3⟩ := cn_snoc.1 h
  rcases List.mem_append.1 hs with hs | hs
  · have := c2 s hs; omega
  · rw [List.mem_singleton.1 hs]; exact hm

theorem Ris.tail {x : Pr} {t : List Pr} (h : Ris (x :: t)) : Ris t := ⟨fun r hr => h.1 r (by simp [hr]), (List.pairwise_cons.1 h.2).2⟩

/-! ### rest -/

def restGo (f : Int) : List Pr → List Pr
  | [] => if f ≤ 4294967295 then [(f, 4294967295)] else []
  | r :: l => if f < r.1 then (f, r.1 - 1) :: restGo (r.2 + 1) l else restGo (r.2 + 1) l

theorem restGo_ok : ∀ (l : List Pr) (f : Int), 0 ≤ f → Cn l → (∀ r ∈ l, f ≤ r.1) → Cn (restGo f l) ∧ (∀ n, InR (restGo f l) n ↔ f ≤ n ∧ n ≤ 4294967295 ∧ ¬ InR l n) ∧ (∀ z ∈ restGo f l, f ≤ z.1) ∧ (restGo f l).length ≤ l.length + 1
  | [], f, h0, _, _ => by
    unfold restGo
    split
    · refine ⟨cn_cons.2 ⟨⟨h0, by assumption, Int.le_refl _⟩, fun _ h => by simp at h, Cn.nil⟩, fun n => ?_, fun z hz => ?_, by simp⟩
      · rw [inR_one]; simp only
        constructor
        · intro h; exact ⟨h.2.2.1, h.2.1, inR_nil n⟩
        · intro h; omega
      · rw [List.mem_singleton.1 hz]; exact Int.le_refl _
    · refine ⟨Cn.nil, fun n => ⟨fun h => absurd h (inR_nil n), fun h => by omega⟩, fun z hz => by simp at hz, by simp⟩
  | r :: l, f, h0, hl, hf => by
    obtain ⟨h2, h3, h4⟩ := cn_cons.1 hl
    have hf1 := hf r (by simp)
    obtain ⟨c1, c2, c3, c4⟩ := restGo_ok l (r.2 + 1) (by omega) h4 fun s hs => by have := h3 s hs; omega
    have hin : ∀ n, InR l n → r.2 + 1 < n := fun n hn => hl.tail_gt hn
    unfold restGo
    split
    · refine ⟨cn_cons.2 ⟨by simp only; omega, fun s hs => ?_, c1⟩, fun n => ?_, fun z hz => ?_, by simp only [List.length_cons]; omega⟩
      · have := c3 s hs; simp only; omega
      · rw [inR_cons, c2 n, inR_cons]
        simp only
        constructor
        · rintro (h | ⟨k1, k2, k3⟩)
          · refine ⟨h.2.2.1, h.2.1, ?_⟩
            rintro (k | k)
            · omega
            · have := hin n k; omega
          · refine ⟨by omega, k2, ?_⟩
            rintro (k | k)
            · omega
            · exact k3 k
        · rintro ⟨k1, k2, k3⟩
          by_cases c : n < r.1
          · exact Or.inl (by omega)
          · refine Or.inr ⟨?_, k2, fun k => k3 (Or.inr k)⟩
            by_cases d : n ≤ r.2
            · exact absurd (Or.inl ⟨by omega, by omega, by omega, d⟩) k3
            · omega
      · rcases List.mem_cons.1 hz with rfl | hz
        · exact Int.le_refl _
        · have := c3 z hz; omega
    · refine ⟨c1, fun n => ?_, fun z hz => by have := c3 z hz; omega, by simp only [List.length_cons]; omega⟩
      rw [c2 n, inR_cons]
      constructor
      · rintro ⟨k1, k2, k3⟩
        refine ⟨by omega, k2, ?_⟩
        rintro (k | k)
        · omega
        · exact k3 k
      · rintro ⟨k1, k2, k3⟩
        refine ⟨?_, k2, fun k => k3 (Or.inr k)⟩
        by_cases d : n ≤ r.2
        · exact absurd (Or.inl ⟨by omega, by omega, by omega, d⟩) k3
        · omega

def restL (s : List Pr) : List Pr := restGo 0 s
theorem restL_ok (s : List Pr) (h : Cn s) : Cn (restL s) ∧ (∀ n, InR (restL s) n ↔ 0 ≤ n ∧ n ≤ 4294967295 ∧ ¬ InR s n) ∧ (restL s).length ≤ s.length + 1 := by
  obtain ⟨c1, c2, _, c4⟩ := restGo_ok s 0 (Int.le_refl _) h fun r hr => (h.1 r hr).1
  exact ⟨c1, c2, c4⟩

/-! ### meet -/

def mr (x y : Pr) : List Pr := if max x.1 y.1 ≤ min x.2 y.2 then [(max x.1 y.1, min x.2 y.2)] else []

structure MeSt (a b a' b' both : List Pr) : Prop where
  ca : Cn a'
  cb : Cn b'
  cn : Cn both
  same : ∀ n, (InR a n ∧ InR b n) ↔ InR both n ∨ (InR a' n ∧ InR b' n)
  lt : ∀ r ∈ both, ∀ n, InR a' n → InR b' n → r.2 + 1 < n
  len : both.length + a'.length + b'.length ≤ a.length + b.length

theorem MeSt.start {a b : List Pr} (ha : Cn a) (hb : Cn b) : MeSt a b a b [] := ⟨ha, hb, Cn.nil, fun n => by simp [inR_nil], fun _ h => by simp at h, by simp⟩

theorem inR_mr (x y : Pr) (n : Int) : InR (mr x y) n ↔ 0 ≤ n ∧ n ≤ 4294967295 ∧ x.1 ≤ n ∧ n ≤ x.2 ∧ y.1 ≤ n ∧ n ≤ y.2 := by
  unfold mr
  split
  · rw [inR_one]; simp only; omega
  · constructor
    · intro h; exact absurd h (inR_nil n)
    · intro h; omega

theorem mr_cn {both : List Pr} {x y : Pr} (h : Cn both) (hx : 0 ≤ x.1 ∧ x.1 ≤ x.2 ∧ x.2 ≤ 4294967295) (hy : 0 ≤ y.1 ∧ y.1 ≤ y.2 ∧ y.2 ≤ 4294967295) (hlt : ∀ r ∈ both, ∀ n, x.1 ≤ n → n ≤ x.2 → y.1 ≤ n → n ≤ y.2 → r.2 + 1 < n) : Cn (both ++ mr x y) := by
  unfold mr
  split
  · refine cn_snoc.2 ⟨h, fun s hs => ?_, by simp only; omega⟩
    exact hlt s hs (max x.1 y.1) (by omega) (by omega) (by omega) (by omega)
  · rw [List.append_nil]; exact h

theorem mem_mr {x y r : Pr} (h : r ∈ mr x y) : r.2 = min x.2 y.2 := by
  unfold mr at h
  split at h
  · rw [List.mem_singleton.1 h]
  · simp at h

theorem mr_length (x y : Pr) : (mr x y).length ≤ 1 := by unfold mr; split <;> simp

theorem MeSt.left {a b a' b' both : List Pr} {x y : Pr} (h : MeSt a b (x :: a') (y :: b') both) (hl : x.2 < y.2) : MeSt a b a' (y :: b') (both ++ mr x y) := by
  obtain ⟨a1, a2, a3⟩ := cn_cons.1 h.ca
  obtain ⟨b1, b2, b3⟩ := cn_cons.1 h.cb
  refine ⟨a3, h.cb, mr_cn h.cn a1 b1 fun r hr n k1 k2 k3 k4 => h.lt r hr n (h.ca.head_in k1 k2) (h.cb.head_in k3 k4), fun n => ?_, fun r hr n k1 k2 => ?_, ?_⟩
  · rw [h.same n, inR_append, inR_mr, inR_cons x a' n, inR_cons y b' n]
    constructor
    · rintro (k | ⟨k1 | k1, k2 | k2⟩)
      · exact Or.inl (Or.inl k)
      · exact Or.inl (Or.inr (by omega))
      · have := h.cb.tail_gt k2; omega
      · exact Or.inr ⟨k1, Or.inl k2⟩
      · exact Or.inr ⟨k1, Or.inr k2⟩
    · rintro ((k | k) | ⟨k1, k2⟩)
      · exact Or.inl k
      · exact Or.inr ⟨Or.inl (by omega), Or.inl (by omega)⟩
      · exact Or.inr ⟨Or.inr k1, k2⟩
  · rcases List.mem_append.1 hr with hr | hr
    · exact h.lt r hr n ((inR_cons x a' n).2 (Or.inr k1)) k2
    · have e := mem_mr hr
      have := h.ca.tail_gt k1
      omega
  · have := h.len
    have := mr_length x y
    simp only [List.length_append, List.length_cons] at *
    omega

theorem MeSt.right {a b a' b' both : List Pr} {x y : Pr} (h : MeSt a b (x :: a') (y :: b') both) (hl : ¬ x.2 < y.2) : MeSt a b (x :: a') b' (both ++ mr x y) := by
  obtain ⟨a1, a2, a3⟩ := cn_cons.1 h.ca
  obtain ⟨b1, b2, b3⟩ := cn_cons.1 h.cb
  refine ⟨h.ca, b3, mr_cn h.cn a1 b1 fun r hr n k1 k2 k3 k4 => h.lt r hr n (h.ca.head_in k1 k2) (h.cb.head_in k3 k4), fun n => ?_, fun r hr n k1 k2 => ?_, ?_⟩
  · rw [h.same n, inR_append, inR_mr, inR_cons x a' n, inR_cons y b' n]
    constructor
    · rintro (k | ⟨k1 | k1, k2 | k2⟩)
      · exact Or.inl (Or.inl k)
      · exact Or.inl (Or.inr (by omega))
      · exact Or.inr ⟨Or.inl k1, k2⟩
      · have := h.ca.tail_gt k1; omega
      · exact Or.inr ⟨Or.inr k1, k2⟩
    · rintro ((k | k) | ⟨k1, k2⟩)
      · exact Or.inl k
      · exact Or.inr ⟨Or.inl (by omega), Or.inl (by omega)⟩
      · exact Or.inr ⟨k1, Or.inr k2⟩
  · rcases List.mem_append.1 hr with hr | hr
    · exact h.lt r hr n k1 ((inR_cons y b' n).2 (Or.inr k2))
    · have e := mem_mr hr
      have := h.cb.tail_gt k2
      omega
  · have := h.len
    have := mr_length x y
    simp only [List.length_append, List.length_cons] at *
    omega

theorem MeSt.fin {a b a' b' both : List Pr} (h : MeSt a b a' b' both) (he : a' = [] ∨ b' = []) : both = meL a b ∧ both.length ≤ a.length + b.length := by
  refine ⟨eq_meL h.cn fun n => ?_, by have := h.len; omega⟩
  rw [h.same n]
  constructor
  · exact Or.inl
  · rintro (k | ⟨k1, k2⟩)
    · exact k
    · rcases he with rfl | rfl
      · exact absurd k1 (inR_nil n)
      · exact absurd k2 (inR_nil n)

theorem MeSt.ends : ∀ (k : Nat) (a b a' b' both : List Pr), a'.length + b'.length ≤ k → MeSt a b a' b' both → (meL a b).length ≤ a.length + b.length
  | _, a, b, [], b', both, _, h => by obtain ⟨e, l⟩ := h.fin (Or.inl rfl); rw [← e]; exact l
  | _, a, b, x :: a', [], both, _, h => by obtain ⟨e, l⟩ := h.fin (Or.inr rfl); rw [← e]; exact l
  | 0, _, _, x :: a', y :: b', _, hk, _ => by simp at hk
  | k + 1, a, b, x :: a', y :: b', both, hk, h => by
    by_cases c : x.2 < y.2
    · exact MeSt.ends k a b a' (y :: b') _ (by simp only [List.length_cons] at *; omega) (h.left c)
    · exact MeSt.ends k a b (x :: a') b' _ (by simp only [List.length_cons] at *; omega) (h.right c)

theorem meL_nm (a b : List Pr) : meL (nmL a) (nmL b) = meL a b := eq_meL (meL_cn _ _) fun n => by rw [meL_in, nmL_in, nmL_in]
theorem meL_rest (a b : List Pr) : meL (nmL a) (restL (nmL b)) = mnL a b := eq_mnL (meL_cn _ _) fun n => by
  rw [meL_in, nmL_in, (restL_ok _ (nmL_cn b)).2.1 n, nmL_in]
  constructor
  · rintro ⟨h1, _, _, h2⟩; exact ⟨h1, h2⟩
  · rintro ⟨h1, h2⟩; exact ⟨h1, h1.1, h1.2.1, h2⟩

theorem meL_length (a b : List Pr) : (meL a b).length ≤ a.length + b.length := by
  rw [← meL_nm]
  have := MeSt.ends _ _ _ _ _ _ (Nat.le_refl _) (MeSt.start (nmL_cn a) (nmL_cn b))
  have := nmL_length a
  have := nmL_length b
  omega
theorem mnL_length (a b : List Pr) : (mnL a b).length ≤ a.length + b.length + 1 := by
  rw [← meL_rest]
  have := MeSt.ends _ _ _ _ _ _ (Nat.le_refl _) (MeSt.start (nmL_cn a) (restL_ok _ (nmL_cn b)).1)
  have := (restL_ok _ (nmL_cn b)).2.2
  have := nmL_length a
  have := nmL_length b
  omega

/-! ### How many -/

theorem cnt_fold (s : List Pr) : ∀ n : Int, s.foldl (fun n r => n + r.2 - r.1 + 1) n = n + cntL s := by
  unfold cntL
  induction s with
  | nil => intro n; simp
  | cons r s ih => intro n; rw [List.foldl_cons, List.foldl_cons, ih, ih (0 + r.2 - r.1 + 1)]; omega

theorem cnt_nil : cntL [] = 0 := rfl
theorem cnt_cons (r : Pr) (s : List Pr) : cntL (r :: s) = (r.2 - r.1 + 1) + cntL s := by
  rw [cntL, List.foldl_cons, cnt_fold]; omega
theorem cnt_snoc (s : List Pr) (r : Pr) : cntL (s ++ [r]) = cntL s + r.2 - r.1 + 1 := by
  rw [cntL, List.foldl_append]; rfl

theorem Cn.take {s : List Pr} (h : Cn s) (i : Nat) : Cn (s.take i) := ⟨fun r hr => h.1 r (List.mem_of_mem_take hr), h.2.sublist (List.take_sublist i s)⟩

theorem cnt_bound : ∀ (s : List Pr) (f : Int), Cn s → (∀ r ∈ s, f ≤ r.1) → f ≤ 4294967296 → 0 ≤ cntL s ∧ cntL s ≤ 4294967296 - f
  | [], f, _, _, hf => by rw [cnt_nil]; omega
  | r :: s, f, h, hr, hf => by
    obtain ⟨h1, h2, h3⟩ := cn_cons.1 h
    have := hr r (by simp)
    have := cnt_bound s (r.2 + 1) h3 (fun z hz => by have := h2 z hz; omega) (by omega)
    rw [cnt_cons]
    omega

theorem cnt_le {s : List Pr} (h : Cn s) : 0 ≤ cntL s ∧ cntL s ≤ 4294967296 := by
  have := cnt_bound s 0 h (fun r hr => (h.1 r hr).1) (by omega)
  omega

theorem cnt_pos {s : List Pr} (h : Cn s) : 0 < cntL s ↔ s ≠ [] := by
  cases s with
  | nil => simp [cnt_nil]
  | cons r s =>
    obtain ⟨h1, h2, h3⟩ := cn_cons.1 h
    have := cnt_le h3
    rw [cnt_cons]
    simp
    omega

theorem countP_or {α : Type} (p q : α → Bool) (l : List α) : l.countP (fun x => p x || q x) + l.countP (fun x => p x && q x) = l.countP p + l.countP q := by
  induction l with
  | nil => simp
  | cons x l ih =>
    simp only [List.countP_cons]
    cases p x <;> cases q x <;> simp at * <;> omega

theorem countP_between (a b : Nat) (hab : a ≤ b) : ∀ B : Nat, (List.range B).countP (fun k => decide (a ≤ k ∧ k ≤ b)) = min (b + 1) B - min a B
  | 0 => by simp
  | B + 1 => by
    rw [List.range_succ, List.countP_append, countP_between a b hab B]
    by_cases c : a ≤ B ∧ B ≤ b
    · simp [c]; omega
    · simp [c]; omega

theorem cnt_eq (B : Nat) (hB : (B : Int) = 4294967296) : ∀ s : List Pr, Cn s → cntL s = ((List.range B).countP (fun k : Nat => hasB s (k : Int)) : Nat)
  | [], _ => by simp [cnt_nil, hasB]
  | r :: s, h => by
    obtain ⟨h1, h2, h3⟩ := cn_cons.1 h
    have ih := cnt_eq B hB s h3
    have e0 := countP_or (fun k : Nat => decide (r.1.toNat ≤ k ∧ k ≤ r.2.toNat)) (fun k : Nat => hasB s (k : Int)) (List.range B)
    have e1 := countP_between r.1.toNat r.2.toNat (by omega) B
    have e2 : (List.range B).countP (fun k : Nat => decide (r.1.toNat ≤ k ∧ k ≤ r.2.toNat) && hasB s (k : Int)) = 0 := by
      rw [List.countP_eq_zero]
      intro k _ hk
      simp only [Bool.and_eq_true, decide_eq_true_eq, hasB_iff] at hk
      have := h.tail_gt hk.2
      omega
    have e3 : (List.range B).countP (fun k : Nat => hasB (r :: s) (k : Int)) = (List.range B).countP (fun k : Nat => decide (r.1.toNat ≤ k ∧ k ≤ r.2.toNat) || hasB s (k : Int)) := by
      apply List.countP_congr
      intro k hk
      have hkB : k < B := List.mem_range.1 hk
      simp only [Bool.or_eq_true, decide_eq_true_eq, hasB_iff]
      rw [inR_cons]
      constructor
      · rintro (k1 | k1)
        · exact Or.inl (by omega)
        · exact Or.inr k1
      · rintro (k1 | k1)
        · exact Or.inl (by omega)
        · exact Or.inr k1
    rw [cnt_cons, ih, e3]
    omega

theorem cnt_un_me (a b : List Pr) : cntL (unL a b) + cntL (meL a b) = cntL (nmL a) + cntL (nmL b) := by
  obtain ⟨B, hB⟩ : ∃ B : Nat, (B : Int) = 4294967296 := ⟨4294967296, rfl⟩
  rw [cnt_eq B hB _ (unL_cn a b), cnt_eq B hB _ (meL_cn a b), cnt_eq B hB _ (nmL_cn a), cnt_eq B hB _ (nmL_cn b)]
  have e := countP_or (fun k : Nat => hasB a (k : Int)) (fun k : Nat => hasB b (k : Int)) (List.range B)
  have c1 : (fun k : Nat => hasB (unL a b) (k : Int)) = fun k : Nat => hasB a (k : Int) || hasB b (k : Int) := by
    funext k; exact hasB_eq (by rw [unL_in, Bool.or_eq_true, hasB_iff, hasB_iff])
  have c2 : (fun k : Nat => hasB (meL a b) (k : Int)) = fun k : Nat => hasB a (k : Int) && hasB b (k : Int) := by
    funext k; exact hasB_eq (by rw [meL_in, Bool.and_eq_true, hasB_iff, hasB_iff])
  have c3 : (fun k : Nat => hasB (nmL a) (k : Int)) = fun k : Nat => hasB a (k : Int) := by
    funext k; exact hasB_eq (by rw [nmL_in, hasB_iff])
  have c4 : (fun k : Nat => hasB (nmL b) (k : Int)) = fun k : Nat => hasB b (k : Int) := by
    funext k; exact hasB_eq (by rw [nmL_in, hasB_iff])
  rw [c1, c2, c3, c4]
  omega

/-! ### The least number, and a set without it -/

def fstN : List Pr → Int
  | [] => 0
  | r :: _ => r.1
def fstB (s : List Pr) : Bool := !s.isEmpty

def dropF : List Pr → List Pr
  | [] => []
  | r :: l => if r.1 < r.2 then (r.1 + 1, r.2) :: l else l

theorem dropF_cons (r : Pr) (l : List Pr) : dropF (r :: l) = if r.1 < r.2 then (r.1 + 1, r.2) :: l else l := rfl

theorem dropF_ok {r : Pr} {l : List Pr} (h : Cn (r :: l)) : mnL (r :: l) [(r.1, r.1)] = dropF (r :: l) ∧ Cn (dropF (r :: l)) ∧ cntL (dropF (r :: l)) = cntL (r :: l) - 1 ∧ (dropF (r :: l)).length ≤ (r :: l).length ∧ ∀ n, InR (dropF (r :: l)) n ↔ InR (r :: l) n ∧ r.1 < n := by
  obtain ⟨h1, h2, h3⟩ := cn_cons.1 h
  have hc : Cn (dropF (r :: l)) := by
    rw [dropF_cons]
    split
    · exact cn_cons.2 ⟨by simp only; omega, h2, h3⟩
    · exact h3
  have hi : ∀ n, InR (dropF (r :: l)) n ↔ InR (r :: l) n ∧ r.1 < n := fun n => by
    rw [dropF_cons]
    split
    · rw [inR_cons, inR_cons]; simp only
      constructor
      · rintro (k | k)
        · exact ⟨Or.inl (by omega), by omega⟩
        · have := h.tail_gt k
          exact ⟨Or.inr k, by omega⟩
      · rintro ⟨k | k, k2⟩
        · exact Or.inl (by omega)
        · exact Or.inr k
    · rw [inR_cons]
      constructor
      · intro k
        have := h.tail_gt k
        exact ⟨Or.inr k, by omega⟩
      · rintro ⟨k | k, k2⟩
        · omega
        · exact k
  refine ⟨(eq_mnL hc fun n => ?_).symm, hc, ?_, ?_, hi⟩
  · rw [hi n, inR_one]
    constructor
    · rintro ⟨k1, k2⟩
      exact ⟨k1, by simp only; omega⟩
    · rintro ⟨k1, k2⟩
      have := h.head_le k1
      have := k1.1
      have := k1.2.1
      simp only at k2
      exact ⟨k1, by omega⟩
  · rw [dropF_cons]
    split
    · rw [cnt_cons, cnt_cons]; simp only; omega
    · rw [cnt_cons]; omega
  · rw [dropF_cons]
    split <;> simp

/-! ### All numbers of a set -/

def uptoN (a : Int) (k : Nat) : List Int := (List.range k).map fun j : Nat => a + (j : Int)
theorem uptoN_succ (a : Int) (k : Nat) : uptoN a (k + 1) = uptoN a k ++ [a + (k : Int)] := by simp [uptoN, List.range_succ]
theorem uptoN_length (a : Int) (k : Nat) : (uptoN a k).length = k := by simp [uptoN]

def numsL (s : List Pr) : List Int := s.flatMap fun r => uptoN r.1 (r.2 - r.1 + 1).toNat
theorem numsL_nil : numsL [] = [] := rfl
theorem numsL_cons (r : Pr) (s : List Pr) : numsL (r :: s) = uptoN r.1 (r.2 - r.1 + 1).toNat ++ numsL s := by simp [numsL]
theorem numsL_snoc (s : List Pr) (r : Pr) : numsL (s ++ [r]) = numsL s ++ uptoN r.1 (r.2 - r.1 + 1).toNat := by simp [numsL]

theorem numsL_length : ∀ (s : List Pr), Cn s → ((numsL s).length : Int) = cntL s
  | [], _ => rfl
  | r :: s, h => by
    obtain ⟨h1, _, h3⟩ := cn_cons.1 h
    have ih := numsL_length s h3
    rw [numsL_cons, List.length_append, uptoN_length, cnt_cons]
    omega

end Go.Proofs.Ytoigljefajbofaa

/-
  Plain facts behind the document's lists: a sorted list with a pair and without one, sorting, changes done one by one, the last change of each pair.
-/
import Derived.Test.YtifeeneojlhffaaSets
import Derived.Test.YtifeeneojlhffaaStab
namespace Go.Proofs.Ytifeeneojlhffaa
open Go.Sort

theorem notin_of_ss {p : Pr} {l : List Pr} (hl : ∀ z ∈ l, ltP p z = true) : p ∉ l := fun hp => by have := hl _ hp; rw [ltP_irrefl] at this; cases this

/-! ### a sorted list with a pair -/
def putF (p : Pr) : Bool → List Pr → List Pr
  | d, [] => if d = true then [] else [p]
  | d, x :: l => if (!d && ltP p x) = true then p :: x :: putF p true l else x :: putF p d l

theorem putF_true (p : Pr) : ∀ l, putF p true l = l
  | [] => rfl
  | x :: l => by rw [putF, if_neg (by simp), putF_true p l]

theorem putF_false (p : Pr) : ∀ l, SS l → p ∉ l → SS (putF p false l) ∧ ∀ x, x ∈ putF p false l ↔ x = p ∨ x ∈ l
  | [], _, _ => ⟨List.pairwise_singleton _ _, fun x => by simp [putF]⟩
  | y :: l, h, hp => by
    unfold putF
    by_cases hl : ltP p y = true
    · rw [if_pos (by simp [hl]), putF_true]
      refine ⟨List.pairwise_cons.2 ⟨fun z hz => ?_, h⟩, fun x => by simp⟩
      rcases List.mem_cons.1 hz with rfl | hz
      · exact hl
      · exact ltP_trans hl (h.head z hz)
    · have hl' : ltP p y = false := by simpa using hl
      rw [if_neg (by simp [hl'])]
      have hp2 : p ≠ y ∧ p ∉ l := by simpa using hp
      obtain ⟨i1, i2⟩ := putF_false p l h.tail hp2.2
      have hyp : ltP y p = true := by
        cases hc : ltP y p with
        | true => rfl
        | false => exact absurd (ltP_total hl' hc) hp2.1
      refine ⟨List.pairwise_cons.2 ⟨fun z hz => ?_, i1⟩, fun x => ?_⟩
      · rcases (i2 z).1 hz with rfl | hz
        · exact hyp
        · exact h.head z hz
      · rw [List.mem_cons, i2 x, List.mem_cons]
        constructor
        · rintro (h | h | h)
          · exact Or.inr (Or.inl h)
          · exact Or.inl h
          · exact Or.inr (Or.inr h)
        · rintro (h | h | h)
          · exact Or.inr (Or.inl h)
          · exact Or.inl h
          · exact Or.inr (Or.inr h)

def putL (l : List Pr) (p : Pr) : List Pr := putF p (decide (p ∈ l)) l

theorem putL_spec (l : List Pr) (p : Pr) (h : SS l) : SS (putL l p) ∧ ∀ x, x ∈ putL l p ↔ x = p ∨ x ∈ l := by
  unfold putL
  by_cases hp : p ∈ l
  · rw [decide_eq_true hp, putF_true]
    refine ⟨h, fun x => ⟨Or.inr, ?_⟩⟩
    rintro (rfl | h)
    · exact hp
    · exact h
  · rw [decide_eq_false hp]
    exact putF_false p l h hp

theorem putF_length (p : Pr) : ∀ d l, (putF p d l).length ≤ l.length + 1
  | d, [] => by cases d <;> simp [putF]
  | d, x :: l => by
    unfold putF
    split
    · rw [putF_true]; simp
    · have := putF_length p d l
      simp only [List.length_cons]; omega

/-! ### sorting -/
theorem putAll_spec : ∀ (l s : List Pr), SS s → SS (l.foldl putL s) ∧ (∀ x, x ∈ l.foldl putL s ↔ x ∈ s ∨ x ∈ l) ∧ (l.foldl putL s).length ≤ s.length + l.length
  | [], s, h => ⟨h, fun x => by simp, by simp⟩
  | p :: l, s, h => by
    obtain ⟨h1, h2⟩ := putL_spec s p h
    obtain ⟨i1, i2, i3⟩ := putAll_spec l (putL s p) h1
    refine ⟨i1, fun x => ?_, ?_⟩
    · rw [List.foldl_cons, i2 x, h2 x, List.mem_cons]
      constructor
      · rintro ((h | h) | h)
        · exact Or.inr (Or.inl h)
        · exact Or.inl h
        · exact Or.inr (Or.inr h)
      · rintro (h | h | h)
        · exact Or.inl (Or.inr h)
        · exact Or.inl (Or.inl h)
        · exact Or.inr h
    · have := putF_length p (decide (p ∈ s)) s
      rw [List.foldl_cons, List.length_cons]
      unfold putL at i3 ⊢
      omega

def sortL (l : List Pr) : List Pr := l.foldl putL []
theorem sortL_spec (l : List Pr) : SS (sortL l) ∧ (∀ x, x ∈ sortL l ↔ x ∈ l) ∧ (sortL l).length ≤ l.length := by
  obtain ⟨h1, h2, h3⟩ := putAll_spec l [] SS.nil
  exact ⟨h1, fun x => by rw [sortL, h2 x]; simp, by simpa [sortL] using h3⟩

/-! ### a list without a pair -/
def withoutL (l : List Pr) (p : Pr) : List Pr := l.filter fun x => !decide (x = p)
theorem withoutL_spec (l : List Pr) (p : Pr) (h : SS l) : SS (withoutL l p) ∧ ∀ x, x ∈ withoutL l p ↔ x ∈ l ∧ x ≠ p :=
  ⟨List.Pairwise.filter _ h, fun x => by simp [withoutL, List.mem_filter]⟩

/-! ### changes -/
def aft (x : Pr) (c : List Ch) (b : Bool) : Bool := c.foldl (fun b ch => if ch.1 = x then ch.2 else b) b
def applyL (s : List Pr) (c : List Ch) : List Pr := c.foldl (fun s ch => if ch.2 = true then putL s ch.1 else withoutL s ch.1) s

theorem applyL_spec : ∀ (c : List Ch) (s : List Pr), SS s → SS (applyL s c) ∧ (∀ x, x ∈ applyL s c ↔ aft x c (decide (x ∈ s)) = true) ∧ (applyL s c).length ≤ s.length + c.length
  | [], s, h => ⟨h, fun x => by simp [applyL, aft], by simp [applyL]⟩
  | ch :: c, s, h => by
    obtain ⟨p, f⟩ := ch
    cases f with
    | true =>
      obtain ⟨h1, h2⟩ := putL_spec s p h
      obtain ⟨i1, i2, i3⟩ := applyL_spec c (putL s p) h1
      refine ⟨i1, fun x => ?_, ?_⟩
      · show x ∈ applyL (putL s p) c ↔ aft x c (if p = x then true else decide (x ∈ s)) = true
        rw [i2 x]
        have : decide (x ∈ putL s p) = (if p = x then true else decide (x ∈ s)) := by
          by_cases e : p = x
          · rw [if_pos e, decide_eq_true ((h2 x).2 (Or.inl e.symm))]
          · rw [if_neg e, decide_eq_decide, h2 x]
            exact ⟨fun h => h.elim (fun h => absurd h.symm e) id, Or.inr⟩
        rw [this]
      · have := putF_length p (decide (p ∈ s)) s
        show (applyL (putL s p) c).length ≤ s.length + (c.length + 1)
        unfold putL at i3 ⊢
        omega
    | false =>
      obtain ⟨h1, h2⟩ := withoutL_spec s p h
      obtain ⟨i1, i2, i3⟩ := applyL_spec c (withoutL s p) h1
      refine ⟨i1, fun x => ?_, ?_⟩
      · show x ∈ applyL (withoutL s p) c ↔ aft x c (if p = x then false else decide (x ∈ s)) = true
        rw [i2 x]
        have : decide (x ∈ withoutL s p) = (if p = x then false else decide (x ∈ s)) := by
          by_cases e : p = x
          · rw [if_pos e, decide_eq_false]
            rw [h2 x]
            exact fun h => h.2 e.symm
          · rw [if_neg e, decide_eq_decide, h2 x]
            exact ⟨fun h => h.1, fun h => ⟨h, fun k => e k.symm⟩⟩
        rw [this]
      · have : (withoutL s p).length ≤ s.length := List.length_filter_le _ _
        show (applyL (withoutL s p) c).length ≤ s.length + (c.length + 1)
        omega

/-- The document's Apply. -/
def applyOf (l : List Pr) (c : List Ch) (r : List Pr) : Prop := SS r ∧ ∀ x, x ∈ r ↔ aft x c (decide (x ∈ l)) = true

theorem applyL_of (l : List Pr) (c : List Ch) : applyOf l c (applyL (sortL l) c) := by
  obtain ⟨h1, h2, _⟩ := sortL_spec l
  obtain ⟨i1, i2, _⟩ := applyL_spec c (sortL l) h1
  refine ⟨i1, fun x => ?_⟩
  rw [i2 x]
  have : decide (x ∈ sortL l) = decide (x ∈ l) := by rw [decide_eq_decide]; exact h2 x
  rw [this]

theorem aft_append (x : Pr) (c d : List Ch) (b : Bool) : aft x (c ++ d) b = aft x d (aft x c b) := by simp [aft, List.foldl_append]

theorem aft_find (x : Pr) (c : List Ch) (b : Bool) : aft x c b = match c.reverse.find? (fun y => decide (y.1 = x)) with | some ch => ch.2 | none => b := by
  have h : ∀ r : List Ch, r.foldr (fun ch b => if ch.1 = x then ch.2 else b) b = match r.find? (fun y => decide (y.1 = x)) with | some ch => ch.2 | none => b := by
    intro r
    induction r with
    | nil => rfl
    | cons y r ih =>
      rw [List.foldr_cons, ih, List.find?_cons]
      by_cases e : y.1 = x
      · simp [e]
      · simp [e]
  rw [← h, aft, ← List.foldl_reverse, List.reverse_reverse]

/-- The last change of each pair, rising. -/
def lastOf (c : List Ch) (d : List Ch) : Prop := SC d ∧ ∀ ch, ch ∈ d ↔ c.reverse.find? (fun y => decide (y.1 = ch.1)) = some ch

theorem uniqF_ch : ∀ (l : List Ch) (p : Ch), (p :: l).Pairwise (fun x y => ltP y.1 x.1 = false) → SC (p :: uniqF (fun x y => decide (x.1 = y.1)) p l) ∧ ∀ ch, ch ∈ p :: uniqF (fun x y => decide (x.1 = y.1)) p l ↔ (p :: l).find? (fun y => decide (y.1 = ch.1)) = some ch
  | [], p, _ => by
    refine ⟨List.pairwise_singleton _ _, fun ch => ?_⟩
    simp only [uniqF, List.mem_singleton, List.find?_cons, List.find?_nil]
    by_cases e : p.1 = ch.1
    · simp only [e, decide_true, Option.some.injEq]
      exact ⟨fun h => h.symm, fun h => h.symm⟩
    · simp only [e, decide_false]
      constructor
      · rintro rfl; exact absurd rfl e
      · intro h; cases h
  | y :: l, p, h => by
    have h1 := List.pairwise_cons.1 h
    obtain ⟨i1, i2⟩ := uniqF_ch l y h1.2
    have i3 := (List.pairwise_cons.1 i1)
    have step : ∀ ch : Ch, p.1 ≠ ch.1 → (p :: y :: l).find? (fun y => decide (y.1 = ch.1)) = (y :: l).find? (fun y => decide (y.1 = ch.1)) := fun ch e => by rw [List.find?_cons]; simp only [e, decide_false]
    have here : ∀ ch : Ch, p.1 = ch.1 → (p :: y :: l).find? (fun y => decide (y.1 = ch.1)) = some p := fun ch e => by rw [List.find?_cons]; simp only [e, decide_true]
    unfold uniqF
    by_cases e : y.1 = p.1
    · rw [if_pos (by simpa using e)]
      refine ⟨List.pairwise_cons.2 ⟨fun z hz => by rw [← e]; exact i3.1 z hz, i3.2⟩, fun ch => ?_⟩
      have hne : ∀ ch ∈ uniqF (fun x y => decide (x.1 = y.1)) y l, p.1 ≠ ch.1 := fun ch hc e2 => by have := i3.1 ch hc; rw [← e2, ← e, ltP_irrefl] at this; cases this
      rw [List.mem_cons]
      constructor
      · rintro (rfl | hc)
        · exact here ch rfl
        · rw [step ch (hne ch hc)]
          exact (i2 ch).1 (List.mem_cons_of_mem _ hc)
      · intro hf
        by_cases e2 : p.1 = ch.1
        · rw [here ch e2] at hf
          exact Or.inl (Option.some.inj hf).symm
        · rw [step ch e2] at hf
          rcases List.mem_cons.1 ((i2 ch).2 hf) with rfl | hc
          · exact absurd e.symm e2
          · exact Or.inr hc
    · rw [if_neg (by simpa using e)]
      have hlt : ltP p.1 y.1 = true := by
        have := h1.1 y (List.mem_cons_self ..)
        cases hc : ltP p.1 y.1 with
        | true => rfl
        | false => exact absurd (ltP_total this hc) e
      have hall : ∀ z ∈ y :: uniqF (fun x y => decide (x.1 = y.1)) y l, ltP p.1 z.1 = true := fun z hz => by
        rcases List.mem_cons.1 hz with rfl | hz
        · exact hlt
        · exact ltP_trans hlt (i3.1 z hz)
      refine ⟨List.pairwise_cons.2 ⟨hall, i1⟩, fun ch => ?_⟩
      have hne : ∀ ch ∈ y :: uniqF (fun x y => decide (x.1 = y.1)) y l, p.1 ≠ ch.1 := fun ch hc e2 => by have := hall ch hc; rw [← e2, ltP_irrefl] at this; cases this
      rw [List.mem_cons]
      constructor
      · rintro (rfl | hc)
        · exact here ch rfl
        · rw [step ch (hne ch hc)]
          exact (i2 ch).1 hc
      · intro hf
        by_cases e2 : p.1 = ch.1
        · rw [here ch e2] at hf
          exact Or.inl (Option.some.inj hf).symm
        · rw [step ch e2] at hf
          exact Or.inr ((i2 ch).2 hf)

theorem uniq_ch (l : List Ch) (h : l.Pairwise (fun x y => ltP y.1 x.1 = false)) : SC (uniq (fun x y => decide (x.1 = y.1)) l) ∧ ∀ ch, ch ∈ uniq (fun x y => decide (x.1 = y.1)) l ↔ l.find? (fun y => decide (y.1 = ch.1)) = some ch := by
  cases l with
  | nil => exact ⟨List.Pairwise.nil, fun x => by simp [uniq]⟩
  | cons p l => exact uniqF_ch l p h

theorem lastOf_stable (c s : List Ch) (hs : s.Pairwise (fun x y => ltP y.1 x.1 = false)) (hst : Stab (fun x y : Ch => ltP x.1 y.1) c.reverse s) : lastOf c (uniq (fun x y => decide (x.1 = y.1)) s) := by
  obtain ⟨h1, h2⟩ := uniq_ch s hs
  refine ⟨h1, fun ch => ?_⟩
  rw [h2 ch, ← List.head?_filter, ← List.head?_filter, hst (fun y => decide (y.1 = ch.1)) (fun x y hx hy => ?_)]
  have ex : x.1 = ch.1 := by simpa using hx
  have ey : y.1 = ch.1 := by simpa using hy
  show ltP x.1 y.1 = false
  rw [ex, ey]
  exact ltP_irrefl _

/-- What is put in, what is taken out. -/
def insOf (d : List Ch) : List Pr := (d.filter fun c => c.2).map fun c => c.1
def outsOf (d : List Ch) : List Pr := (d.filter fun c => !c.2).map fun c => c.1
theorem insOf_ss {d : List Ch} (h : SC d) : SS (insOf d) := List.pairwise_map.2 (List.Pairwise.filter _ h)
theorem outsOf_ss {d : List Ch} (h : SC d) : SS (outsOf d) := List.pairwise_map.2 (List.Pairwise.filter _ h)
theorem mem_insOf {d : List Ch} {x : Pr} : x ∈ insOf d ↔ (x, true) ∈ d := by
  simp only [insOf, List.mem_map, List.mem_filter]
  constructor
  · rintro ⟨⟨p, f⟩, ⟨h, hf⟩, rfl⟩
    simp only at hf
    subst hf
    exact h
  · exact fun h => ⟨_, ⟨h, rfl⟩, rfl⟩
theorem mem_outsOf {d : List Ch} {x : Pr} : x ∈ outsOf d ↔ (x, false) ∈ d := by
  simp only [outsOf, List.mem_map, List.mem_filter]
  constructor
  · rintro ⟨⟨p, f⟩, ⟨h, hf⟩, rfl⟩
    simp only [Bool.not_eq_true'] at hf
    subst hf
    exact h
  · exact fun h => ⟨_, ⟨h, rfl⟩, rfl⟩

theorem apply_last {l : List Pr} {c d : List Ch} (h : lastOf c d) (x : Pr) : aft x c (decide (x ∈ l)) = true ↔ (x ∈ l ∧ x ∉ outsOf d) ∨ x ∈ insOf d := by
  rw [mem_insOf, mem_outsOf, h.2, h.2, aft_find]
  simp only
  cases hf : c.reverse.find? (fun y => decide (y.1 = x)) with
  | none => simp
  | some ch =>
    have e : ch.1 = x := by simpa using List.find?_some hf
    obtain ⟨p, f⟩ := ch
    simp only at e
    subst e
    cases f <;> simp

/-! ### differences -/
theorem minusOf_ext {a b m m' : List Pr} (h : SS m ∧ ∀ x, x ∈ m ↔ x ∈ a ∧ x ∉ b) (k : SS m' ∧ ∀ x, x ∈ m' ↔ x ∈ a ∧ x ∉ b) : m = m' :=
  ss_ext m m' h.1 k.1 fun x => by rw [h.2 x, k.2 x]

theorem diff_none {a : List Pr} {d : List Ch} (h : ∀ c, c ∈ d ↔ (c.2 = true ↔ c.1 ∈ a) ∧ (c.2 = false ↔ c.1 ∈ a)) : d = [] := by
  cases d with
  | nil => rfl
  | cons c d =>
    have := (h c).1 (List.mem_cons_self ..)
    exfalso
    have e : c.2 = true ↔ c.2 = false := this.1.trans this.2.symm
    cases hc : c.2 <;> simp [hc] at e

theorem part_length (d : List Ch) : d.length = (outsOf d).length + (insOf d).length := by
  unfold outsOf insOf
  rw [List.length_map, List.length_map]
  induction d with
  | nil => rfl
  | cons c d ih =>
    rw [List.filter_cons, List.filter_cons]
    cases hc : c.2
    · simp only [Bool.not_false, if_true, Bool.false_eq_true, if_false, List.length_cons]; omega
    · simp only [Bool.not_true, if_true, Bool.false_eq_true, if_false, List.length_cons]; omega

theorem diff_length {a b : List Pr} {d : List Ch} {m m' : List Pr} (hc : SC d) (h : ∀ c, c ∈ d ↔ (c.2 = true ↔ c.1 ∈ b) ∧ (c.2 = false ↔ c.1 ∈ a)) (hm : SS m ∧ ∀ x, x ∈ m ↔ x ∈ a ∧ x ∉ b) (hm' : SS m' ∧ ∀ x, x ∈ m' ↔ x ∈ b ∧ x ∉ a) : d.length = m.length + m'.length := by
  have e1 : outsOf d = m := ss_ext _ _ (outsOf_ss hc) hm.1 fun x => by
    rw [mem_outsOf, h, hm.2 x]; simp [and_comm]
  have e2 : insOf d = m' := ss_ext _ _ (insOf_ss hc) hm'.1 fun x => by
    rw [mem_insOf, h, hm'.2 x]; simp
  rw [part_length, e1, e2]

theorem aft_all (x : Pr) (f : Bool) : ∀ (c : List Ch) (b : Bool), (∀ ch ∈ c, ch.1 = x → ch.2 = f) → aft x c b = if (∃ ch ∈ c, ch.1 = x) then f else b
  | [], b, _ => by simp [aft]
  | ch :: c, b, h => by
    have ih := aft_all x f c (if ch.1 = x then ch.2 else b) (fun z hz => h z (List.mem_cons_of_mem _ hz))
    show aft x c (if ch.1 = x then ch.2 else b) = _
    rw [ih]
    by_cases e : ch.1 = x
    · rw [if_pos e, h ch (List.mem_cons_self ..) e, if_pos (c := ∃ z ∈ ch :: c, z.1 = x) ⟨ch, List.mem_cons_self .., e⟩]
      split <;> rfl
    · rw [if_neg e]
      have : (∃ z ∈ ch :: c, z.1 = x) ↔ ∃ z ∈ c, z.1 = x := by
        constructor
        · rintro ⟨z, hz, ez⟩
          rcases List.mem_cons.1 hz with rfl | hz
          · exact absurd ez e
          · exact ⟨z, hz, ez⟩
        · rintro ⟨z, hz, ez⟩
          exact ⟨z, List.mem_cons_of_mem _ hz, ez⟩
      simp only [this]

theorem aft_diff {a b : List Pr} {d : List Ch} (h : ∀ c, c ∈ d ↔ (c.2 = true ↔ c.1 ∈ b) ∧ (c.2 = false ↔ c.1 ∈ a)) (x : Pr) : aft x d (decide (x ∈ a)) = decide (x ∈ b) := by
  rw [aft_all x (decide (x ∈ b)) d _ fun ch hc e => ?_]
  · split
    · rfl
    · rename_i hn
      rw [decide_eq_decide]
      by_cases ha : x ∈ a <;> by_cases hb : x ∈ b
      · simp [ha, hb]
      · exact absurd ⟨(x, false), (h _).2 ⟨by simp [hb], by simp [ha]⟩, rfl⟩ hn
      · exact absurd ⟨(x, true), (h _).2 ⟨by simp [hb], by simp [ha]⟩, rfl⟩ hn
      · simp [ha, hb]
  · have := ((h ch).1 hc).1
    rw [e] at this
    cases hb : ch.2
    · rw [hb] at this
      exact (decide_eq_false (fun k => by have := this.2 k; cases this)).symm
    · exact (decide_eq_true (this.1 hb)).symm

theorem refDiff_spec {a b m m' : List Pr} (hm : ∀ x, x ∈ m ↔ x ∈ a ∧ x ∉ b) (hm' : ∀ x, x ∈ m' ↔ x ∈ b ∧ x ∉ a) : SC ((sortL (m ++ m')).map fun x => (x, decide (x ∈ b))) ∧ ∀ c, c ∈ ((sortL (m ++ m')).map fun x => (x, decide (x ∈ b))) ↔ (c.2 = true ↔ c.1 ∈ b) ∧ (c.2 = false ↔ c.1 ∈ a) := by
  obtain ⟨h1, h2, _⟩ := sortL_spec (m ++ m')
  refine ⟨List.pairwise_map.2 h1, fun c => ?_⟩
  simp only [List.mem_map, h2, List.mem_append, hm, hm']
  constructor
  · rintro ⟨x, h, rfl⟩
    rcases h with ⟨ha, hb⟩ | ⟨hb, ha⟩ <;> simp [ha, hb]
  · rintro ⟨k1, k2⟩
    obtain ⟨x, f⟩ := c
    simp only at k1 k2
    refine ⟨x, ?_, ?_⟩
    · cases f with
      | true => exact Or.inr ⟨k1.1 rfl, fun h => by have := k2.2 h; cases this⟩
      | false => exact Or.inl ⟨k2.1 rfl, fun h => by have := k1.2 h; cases this⟩
    · rw [Prod.mk.injEq]
      refine ⟨rfl, ?_⟩
      cases f with
      | true => exact decide_eq_true (k1.1 rfl)
      | false => exact decide_eq_false (fun h => by have := k1.2 h; cases this)

end Go.Proofs.Ytifeeneojlhffaa

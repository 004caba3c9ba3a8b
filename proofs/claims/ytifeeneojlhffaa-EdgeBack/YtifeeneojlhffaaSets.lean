/-
  Plain facts on sorted lists of pairs: the order of pairs, lists that rise strictly (one a set), the walk through two of them, runs of equals cut to one.
-/
import Derived.Sort.Statements
import Derived.Lib.Small
namespace Go.Proofs.Ytifeeneojlhffaa
open Go.Sort

abbrev Pr := Int × Int
abbrev Ch := Pr × Bool

def cfP (x y : Pr) : Int := if Lib.compareInt x.1 y.1 = 0 then Lib.compareInt x.2 y.2 else Lib.compareInt x.1 y.1
def ltP (x y : Pr) : Bool := decide (x.1 < y.1 ∨ x.1 = y.1 ∧ x.2 < y.2)

theorem cmpInt_cases (x y : Int) : (x < y ∧ Lib.compareInt x y = -1) ∨ (x = y ∧ Lib.compareInt x y = 0) ∨ (y < x ∧ Lib.compareInt x y = 1) := by
  unfold Lib.compareInt
  by_cases h1 : x < y
  · exact Or.inl ⟨h1, by simp [h1]⟩
  · by_cases h2 : y < x
    · exact Or.inr (Or.inr ⟨h2, by simp [h1, h2]⟩)
    · exact Or.inr (Or.inl ⟨by omega, by simp [h1, h2]⟩)

theorem cfP_cases (x y : Pr) : (ltP x y = true ∧ cfP x y = -1) ∨ (x = y ∧ cfP x y = 0) ∨ (ltP y x = true ∧ cfP x y = 1) := by
  obtain ⟨a, b⟩ := x
  obtain ⟨c, d⟩ := y
  unfold cfP ltP
  simp only [decide_eq_true_eq, Prod.mk.injEq]
  rcases cmpInt_cases a c with ⟨h, e⟩ | ⟨h, e⟩ | ⟨h, e⟩
  · rw [e]; left; exact ⟨Or.inl h, by simp⟩
  · rw [e, if_pos rfl]
    rcases cmpInt_cases b d with ⟨h2, e2⟩ | ⟨h2, e2⟩ | ⟨h2, e2⟩
    · left; exact ⟨Or.inr ⟨h, h2⟩, e2⟩
    · right; left; exact ⟨⟨h, h2⟩, e2⟩
    · right; right; exact ⟨Or.inr ⟨h.symm, h2⟩, e2⟩
  · rw [e]; right; right; exact ⟨Or.inl h, by simp⟩

theorem ltP_irrefl (x : Pr) : ltP x x = false := by unfold ltP; rw [decide_eq_false_iff_not]; omega
theorem ltP_trans {x y z : Pr} (h : ltP x y = true) (k : ltP y z = true) : ltP x z = true := by
  unfold ltP at *; rw [decide_eq_true_eq] at *; omega
theorem ltP_asymm {x y : Pr} (h : ltP x y = true) : ltP y x = false := by
  unfold ltP at *; rw [decide_eq_true_eq] at h; rw [decide_eq_false_iff_not]; omega
theorem ltP_total {x y : Pr} (h : ltP x y = false) (k : ltP y x = false) : x = y := by
  unfold ltP at *; rw [decide_eq_false_iff_not] at *
  obtain ⟨a, b⟩ := x; obtain ⟨c, d⟩ := y
  simp only at h k
  rw [Prod.mk.injEq]; omega
theorem ltP_ntrans {x y z : Pr} (h : ltP x y = false) (k : ltP y z = false) : ltP x z = false := by
  unfold ltP at *; rw [decide_eq_false_iff_not] at *; omega

theorem ltOf_cfP (x y : Pr) : decide (cfP x y < 0) = ltP x y := by
  rcases cfP_cases x y with ⟨h, e⟩ | ⟨h, e⟩ | ⟨h, e⟩
  · rw [e, h]; rfl
  · rw [e, h, ltP_irrefl]; rfl
  · rw [e, ltP_asymm h]; rfl

theorem swoP : SWO ltP := ⟨ltP_irrefl, fun _ _ _ => ltP_trans, fun _ _ _ => ltP_ntrans⟩

/-- Strictly rising. -/
def SS (l : List Pr) : Prop := l.Pairwise fun x y => ltP x y = true

theorem SS.nil : SS [] := List.Pairwise.nil
theorem SS.tail {x : Pr} {l : List Pr} (h : SS (x :: l)) : SS l := (List.pairwise_cons.1 h).2
theorem SS.head {x : Pr} {l : List Pr} (h : SS (x :: l)) : ∀ y ∈ l, ltP x y = true := (List.pairwise_cons.1 h).1

/-- A set has one strictly rising list. -/
theorem ss_ext : ∀ (l l' : List Pr), SS l → SS l' → (∀ x, x ∈ l ↔ x ∈ l') → l = l'
  | [], [], _, _, _ => rfl
  | [], y :: l', _, _, h => absurd ((h y).2 (List.mem_cons_self ..)) (by simp)
  | x :: l, [], _, _, h => absurd ((h x).1 (List.mem_cons_self ..)) (by simp)
  | x :: l, y :: l', h1, h2, h => by
    have e : x = y := by
      rcases List.mem_cons.1 ((h x).1 (List.mem_cons_self ..)) with e | e
      · exact e
      · rcases List.mem_cons.1 ((h y).2 (List.mem_cons_self ..)) with e' | e'
        · exact e'.symm
        · have a := h1.head y e'
          have b := h2.head x e
          rw [ltP_asymm a] at b; cases b
    subst e
    rw [ss_ext l l' h1.tail h2.tail fun z => ?_]
    constructor
    · intro hz
      rcases List.mem_cons.1 ((h z).1 (List.mem_cons_of_mem _ hz)) with e | e
      · subst e; have := h1.head z hz; rw [ltP_irrefl] at this; cases this
      · exact e
    · intro hz
      rcases List.mem_cons.1 ((h z).2 (List.mem_cons_of_mem _ hz)) with e | e
      · subst e; have := h2.head z hz; rw [ltP_irrefl] at this; cases this
      · exact e

/-- Strictly rising by their pairs. -/
def SC (d : List Ch) : Prop := d.Pairwise fun x y => ltP x.1 y.1 = true

theorem sc_ext : ∀ (l l' : List Ch), SC l → SC l' → (∀ x, x ∈ l ↔ x ∈ l') → l = l'
  | [], [], _, _, _ => rfl
  | [], y :: l', _, _, h => absurd ((h y).2 (List.mem_cons_self ..)) (by simp)
  | x :: l, [], _, _, h => absurd ((h x).1 (List.mem_cons_self ..)) (by simp)
  | x :: l, y :: l', h1, h2, h => by
    have H1 := (List.pairwise_cons.1 h1).1
    have H2 := (List.pairwise_cons.1 h2).1
    have e : x = y := by
      rcases List.mem_cons.1 ((h x).1 (List.mem_cons_self ..)) with e | e
      · exact e
      · rcases List.mem_cons.1 ((h y).2 (List.mem_cons_self ..)) with e' | e'
        · exact e'.symm
        · have a := H1 y e'
          have b := H2 x e
          rw [ltP_asymm a] at b; cases b
    subst e
    rw [sc_ext l l' (List.pairwise_cons.1 h1).2 (List.pairwise_cons.1 h2).2 fun z => ?_]
    constructor
    · intro hz
      rcases List.mem_cons.1 ((h z).1 (List.mem_cons_of_mem _ hz)) with e | e
      · subst e; have := H1 z hz; rw [ltP_irrefl] at this; cases this
      · exact e
    · intro hz
      rcases List.mem_cons.1 ((h z).2 (List.mem_cons_of_mem _ hz)) with e | e
      · subst e; have := H2 z hz; rw [ltP_irrefl] at this; cases this
      · exact e

/-! ### runs of equals -/
section
variable {α : Type} (eq : α → α → Bool)
def uniqF : α → List α → List α
  | _, [] => []
  | p, y :: l => if eq y p then uniqF y l else y :: uniqF y l
def uniq : List α → List α
  | [] => []
  | x :: l => x :: uniqF eq x l
end

theorem uniqF_length {α : Type} (eq : α → α → Bool) : ∀ (l : List α) (p : α), (uniqF eq p l).length ≤ l.length
  | [], _ => Nat.le_refl _
  | y :: l, p => by
    have := uniqF_length eq l y
    unfold uniqF
    split
    · simp only [List.length_cons]; omega
    · simp only [List.length_cons]; omega
theorem uniq_length {α : Type} (eq : α → α → Bool) (l : List α) : (uniq eq l).length ≤ l.length := by
  cases l with
  | nil => exact Nat.le_refl _
  | cons x l => have := uniqF_length eq l x; simp only [uniq, List.length_cons]; omega

/-- Of pairs in order: strictly rising, the same members. -/
theorem uniqF_pr : ∀ (l : List Pr) (p : Pr), (p :: l).Pairwise (fun x y => ltP y x = false) → SS (p :: uniqF (fun x y => decide (x = y)) p l) ∧ ∀ x, x ∈ p :: uniqF (fun x y => decide (x = y)) p l ↔ x ∈ p :: l
  | [], p, _ => ⟨List.pairwise_singleton _ _, fun x => Iff.rfl⟩
  | y :: l, p, h => by
    have h1 := List.pairwise_cons.1 h
    have ih := uniqF_pr l y h1.2
    unfold uniqF
    by_cases e : y = p
    · subst e
      rw [if_pos (by simp)]
      exact ⟨ih.1, fun x => by rw [ih.2 x]; simp⟩
    · rw [if_neg (by simpa using e)]
      have hlt : ltP p y = true := by
        have := h1.1 y (List.mem_cons_self ..)
        cases hc : ltP p y with
        | true => rfl
        | false => exact absurd (ltP_total this hc) e
      refine ⟨List.pairwise_cons.2 ⟨fun z hz => ?_, ih.1⟩, fun x => ?_⟩
      · rcases List.mem_cons.1 hz with hz | hz
        · rw [hz]; exact hlt
        · exact ltP_trans hlt (ih.1.head z hz)
      · rw [List.mem_cons, ih.2 x, ← List.mem_cons]

theorem uniq_pr (l : List Pr) (h : l.Pairwise (fun x y => ltP y x = false)) : SS (uniq (fun x y => decide (x = y)) l) ∧ ∀ x, x ∈ uniq (fun x y => decide (x = y)) l ↔ x ∈ l := by
  cases l with
  | nil => exact ⟨SS.nil, fun x => Iff.rfl⟩
  | cons p l => exact uniqF_pr l p h

/-! ### two lists gone through at once -/
def evRow (x : Pr) (f : List Pr → List (Pr × Bool × Bool)) : List Pr → List (Pr × Bool × Bool)
  | [] => (x, true, false) :: f []
  | y :: b => if ltP x y then (x, true, false) :: f (y :: b) else if ltP y x then (y, false, true) :: evRow x f b else (x, true, true) :: f b
def ev : List Pr → List Pr → List (Pr × Bool × Bool)
  | [] => fun b => b.map fun x => (x, false, true)
  | x :: a => evRow x (ev a)

theorem ev_nil_left (b : List Pr) : ev [] b = b.map fun x => (x, false, true) := rfl
theorem ev_nil_right : ∀ a : List Pr, ev a [] = a.map fun x => (x, true, false)
  | [] => rfl
  | x :: a => by
    show (x, true, false) :: ev a [] = _
    rw [ev_nil_right a]
    rfl
theorem ev_lt {x y : Pr} (a b : List Pr) (h : ltP x y = true) : ev (x :: a) (y :: b) = (x, true, false) :: ev a (y :: b) := by
  show evRow x (ev a) (y :: b) = _
  rw [evRow, if_pos h]
theorem ev_gt {x y : Pr} (a b : List Pr) (h : ltP y x = true) : ev (x :: a) (y :: b) = (y, false, true) :: ev (x :: a) b := by
  show evRow x (ev a) (y :: b) = _
  rw [evRow, if_neg (by rw [ltP_asymm h]; simp), if_pos h]
  rfl
theorem ev_eq (x : Pr) (a b : List Pr) : ev (x :: a) (x :: b) = (x, true, true) :: ev a b := by
  show evRow x (ev a) (x :: b) = _
  rw [evRow, if_neg (by rw [ltP_irrefl]; simp), if_neg (by rw [ltP_irrefl]; simp)]

theorem ev_length : ∀ (n : Nat) (a b : List Pr), a.length + b.length ≤ n → (ev a b).length ≤ a.length + b.length
  | n, [], b, _ => by rw [ev_nil_left]; simp
  | n, x :: a, [], _ => by rw [ev_nil_right]; simp
  | 0, x :: a, y :: b, h => by simp at h
  | n + 1, x :: a, y :: b, h => by
    simp only [List.length_cons] at h
    rcases cfP_cases x y with ⟨hl, _⟩ | ⟨he, _⟩ | ⟨hl, _⟩
    · rw [ev_lt a b hl]
      have := ev_length n a (y :: b) (by simp; omega)
      simp only [List.length_cons] at this ⊢; omega
    · subst he
      rw [ev_eq]
      have := ev_length n a b (by omega)
      simp only [List.length_cons] at this ⊢; omega
    · rw [ev_gt a b hl]
      have := ev_length n (x :: a) b (by simp; omega)
      simp only [List.length_cons] at this ⊢; omega

/-- Rising, and each thing with the lists that it is in. -/
theorem ev_spec : ∀ (n : Nat) (a b : List Pr), a.length + b.length ≤ n → SS a → SS b →
    (ev a b).Pairwise (fun e f => ltP e.1 f.1 = true) ∧ ∀ e, e ∈ ev a b ↔ ((e.2.1 = true ↔ e.1 ∈ a) ∧ (e.2.2 = true ↔ e.1 ∈ b) ∧ (e.1 ∈ a ∨ e.1 ∈ b))
  | n, [], b, _, _, hb => by
    rw [ev_nil_left]
    refine ⟨List.pairwise_map.2 hb, fun e => ?_⟩
    obtain ⟨x, i, j⟩ := e
    simp only [List.mem_map, Prod.mk.injEq, List.not_mem_nil, iff_false, false_or, Bool.not_eq_true]
    constructor
    · rintro ⟨z, hz, rfl, rfl, rfl⟩; exact ⟨rfl, by simp [hz], hz⟩
    · rintro ⟨h1, h2, h3⟩; exact ⟨x, h3, rfl, h1.symm, (h2.2 h3).symm⟩
  | n, x :: a, [], _, ha, _ => by
    rw [ev_nil_right]
    refine ⟨List.pairwise_map.2 ha, fun e => ?_⟩
    obtain ⟨z, i, j⟩ := e
    simp only [List.mem_map, Prod.mk.injEq, List.not_mem_nil, iff_false, or_false, Bool.not_eq_true]
    constructor
    · rintro ⟨z', hz, rfl, rfl, rfl⟩; exact ⟨by simp only [hz], rfl, hz⟩
    · rintro ⟨h1, h2, h3⟩; exact ⟨z, h3, rfl, (h1.2 h3).symm, h2.symm⟩
  | 0, x :: a, y :: b, h, _, _ => by simp at h
  | n + 1, x :: a, y :: b, h, ha, hb => by
    simp only [List.length_cons] at h
    have notin : ∀ {p : Pr} {l : List Pr}, (∀ z ∈ l, ltP p z = true) → p ∉ l := fun hl hp => by have := hl _ hp; rw [ltP_irrefl] at this; cases this
    rcases cfP_cases x y with ⟨hl, _⟩ | ⟨he, _⟩ | ⟨hl, _⟩
    · rw [ev_lt a b hl]
      obtain ⟨i1, i2⟩ := ev_spec n a (y :: b) (by simp; omega) ha.tail hb
      have xb : ∀ z ∈ y :: b, ltP x z = true := fun z hz => by
        rcases List.mem_cons.1 hz with rfl | hz
        · exact hl
        · exact ltP_trans hl (hb.head z hz)
      have hx1 : x ∉ a := notin ha.head
      have hx2 : x ∉ y :: b := notin xb
      refine ⟨List.pairwise_cons.2 ⟨fun e he => ?_, i1⟩, fun e => ?_⟩
      · rcases ((i2 e).1 he).2.2 with h | h
        · exact ha.head _ h
        · exact xb _ h
      · obtain ⟨z, i, j⟩ := e
        rw [List.mem_cons, i2]
        simp only [Prod.mk.injEq, List.mem_cons] at hx2 ⊢
        constructor
        · rintro (⟨rfl, rfl, rfl⟩ | ⟨h1, h2, h3⟩)
          · exact ⟨by simp, by simp [hx2], Or.inl (Or.inl rfl)⟩
          · have hne : z ≠ x := by
              rintro rfl
              rcases h3 with h3 | h3
              · exact hx1 h3
              · exact hx2 h3
            exact ⟨by rw [h1]; simp [hne], h2, by rcases h3 with h3 | h3; exact Or.inl (Or.inr h3); exact Or.inr h3⟩
        · rintro ⟨h1, h2, h3⟩
          by_cases e : z = x
          · subst e
            refine Or.inl ⟨rfl, h1.2 (Or.inl rfl), ?_⟩
            cases hj : j with
            | false => rfl
            | true => exact absurd (h2.1 hj) hx2
          · refine Or.inr ⟨by rw [h1]; simp [e], h2, ?_⟩
            rcases h3 with (h3 | h3) | h3
            · exact absurd h3 e
            · exact Or.inl h3
            · exact Or.inr h3
    · subst he
      rw [ev_eq]
      obtain ⟨i1, i2⟩ := ev_spec n a b (by omega) ha.tail hb.tail
      have hx1 : x ∉ a := notin ha.head
      have hx2 : x ∉ b := notin hb.head
      refine ⟨List.pairwise_cons.2 ⟨fun e he => ?_, i1⟩, fun e => ?_⟩
      · rcases ((i2 e).1 he).2.2 with h | h
        · exact ha.head _ h
        · exact hb.head _ h
      · obtain ⟨z, i, j⟩ := e
        rw [List.mem_cons, i2]
        simp only [Prod.mk.injEq, List.mem_cons]
        constructor
        · rintro (⟨rfl, rfl, rfl⟩ | ⟨h1, h2, h3⟩)
          · exact ⟨by simp, by simp, Or.inl (Or.inl rfl)⟩
          · have hne : z ≠ x := by
              rintro rfl
              rcases h3 with h3 | h3
              · exact hx1 h3
              · exact hx2 h3
            exact ⟨by rw [h1]; simp [hne], by rw [h2]; simp [hne], by rcases h3 with h3 | h3; exact Or.inl (Or.inr h3); exact Or.inr (Or.inr h3)⟩
        · rintro ⟨h1, h2, h3⟩
          by_cases e : z = x
          · subst e
            exact Or.inl ⟨rfl, h1.2 (Or.inl rfl), h2.2 (Or.inl rfl)⟩
          · refine Or.inr ⟨by rw [h1]; simp [e], by rw [h2]; simp [e], ?_⟩
            rcases h3 with (h3 | h3) | (h3 | h3)
            · exact absurd h3 e
            · exact Or.inl h3
            · exact absurd h3 e
            · exact Or.inr h3
    · rw [ev_gt a b hl]
      obtain ⟨i1, i2⟩ := ev_spec n (x :: a) b (by simp; omega) ha hb.tail
      have xb : ∀ z ∈ x :: a, ltP y z = true := fun z hz => by
        rcases List.mem_cons.1 hz with rfl | hz
        · exact hl
        · exact ltP_trans hl (ha.head z hz)
      have hx1 : y ∉ b := notin hb.head
      have hx2 : y ∉ x :: a := notin xb
      refine ⟨List.pairwise_cons.2 ⟨fun e he => ?_, i1⟩, fun e => ?_⟩
      · rcases ((i2 e).1 he).2.2 with h | h
        · exact xb _ h
        · exact hb.head _ h
      · obtain ⟨z, i, j⟩ := e
        rw [List.mem_cons, i2]
        simp only [Prod.mk.injEq, List.mem_cons] at hx2 ⊢
        constructor
        · rintro (⟨rfl, rfl, rfl⟩ | ⟨h1, h2, h3⟩)
          · exact ⟨by simp [hx2], by simp, Or.inr (Or.inl rfl)⟩
          · have hne : z ≠ y := by
              rintro rfl
              rcases h3 with h3 | h3
              · exact hx2 h3
              · exact hx1 h3
            exact ⟨h1, by rw [h2]; simp [hne], by rcases h3 with h3 | h3; exact Or.inl h3; exact Or.inr (Or.inr h3)⟩
        · rintro ⟨h1, h2, h3⟩
          by_cases e : z = y
          · subst e
            refine Or.inl ⟨rfl, ?_, h2.2 (Or.inl rfl)⟩
            cases hj : i with
            | false => rfl
            | true => exact absurd (h1.1 hj) hx2
          · refine Or.inr ⟨h1, by rw [h2]; simp [e], ?_⟩
            rcases h3 with h3 | (h3 | h3)
            · exact Or.inl h3
            · exact absurd h3 e
            · exact Or.inr h3

/-- What is in the first list alone; what changes the one into the other; both together. -/
def minusL (e : Pr × Bool × Bool) : Option Pr := if e.2.2 then none else some e.1
def diffL (e : Pr × Bool × Bool) : Option Ch := if e.2.1 = e.2.2 then none else some (e.1, e.2.2)
def unionL (e : Pr × Bool × Bool) : Option Pr := some e.1

theorem ss_filterMap {f : Pr × Bool × Bool → Option Pr} (hf : ∀ e x, f e = some x → x = e.1) {l : List (Pr × Bool × Bool)} (h : l.Pairwise fun e f => ltP e.1 f.1 = true) : SS (l.filterMap f) := by
  refine List.Pairwise.filterMap f (fun e e' he x hx y hy => ?_) h
  rw [hf e x hx, hf e' y hy]; exact he

theorem minus_spec {a b : List Pr} (ha : SS a) (hb : SS b) : SS ((ev a b).filterMap minusL) ∧ ∀ x, x ∈ (ev a b).filterMap minusL ↔ x ∈ a ∧ x ∉ b := by
  obtain ⟨h1, h2⟩ := ev_spec _ a b (Nat.le_refl _) ha hb
  have hf : ∀ e x, minusL e = some x → x = e.1 ∧ e.2.2 = false := fun e x h => by
    unfold minusL at h
    split at h
    · cases h
    · rename_i hh; exact ⟨(Option.some.inj h).symm, by simpa using hh⟩
  refine ⟨ss_filterMap (fun e x h => (hf e x h).1) h1, fun x => ?_⟩
  rw [List.mem_filterMap]
  constructor
  · rintro ⟨e, he, hx⟩
    obtain ⟨rfl, hj⟩ := hf e x hx
    obtain ⟨k1, k2, k3⟩ := (h2 e).1 he
    have hnb : e.1 ∉ b := fun hc => by have := k2.2 hc; rw [hj] at this; cases this
    rcases k3 with k3 | k3
    · exact ⟨k3, hnb⟩
    · exact absurd k3 hnb
  · rintro ⟨hxa, hxb⟩
    exact ⟨(x, true, false), (h2 _).2 ⟨by simp [hxa], by simp [hxb], Or.inl hxa⟩, rfl⟩

theorem union_spec {a b : List Pr} (ha : SS a) (hb : SS b) : SS ((ev a b).filterMap unionL) ∧ ∀ x, x ∈ (ev a b).filterMap unionL ↔ x ∈ a ∨ x ∈ b := by
  obtain ⟨h1, h2⟩ := ev_spec _ a b (Nat.le_refl _) ha hb
  have hf : ∀ e x, unionL e = some x → x = e.1 := fun e x h => (Option.some.inj h).symm
  refine ⟨ss_filterMap hf h1, fun x => ?_⟩
  rw [List.mem_filterMap]
  constructor
  · rintro ⟨e, he, hx⟩
    rw [hf e x hx]
    exact ((h2 e).1 he).2.2
  · intro hx
    refine ⟨(x, decide (x ∈ a), decide (x ∈ b)), (h2 _).2 ⟨by simp, by simp, hx⟩, rfl⟩

theorem diff_spec {a b : List Pr} (ha : SS a) (hb : SS b) : SC ((ev a b).filterMap diffL) ∧ ∀ c, c ∈ (ev a b).filterMap diffL ↔ (c.2 = true ↔ c.1 ∈ b) ∧ (c.2 = false ↔ c.1 ∈ a) := by
  obtain ⟨h1, h2⟩ := ev_spec _ a b (Nat.le_refl _) ha hb
  have hf : ∀ e x, diffL e = some x → x = (e.1, e.2.2) ∧ e.2.1 ≠ e.2.2 := fun e x h => by
    unfold diffL at h
    split at h
    · cases h
    · rename_i hh; exact ⟨(Option.some.inj h).symm, hh⟩
  refine ⟨List.Pairwise.filterMap diffL (fun e e' he x hx y hy => ?_) h1, fun c => ?_⟩
  · rw [(hf e x hx).1, (hf e' y hy).1]; exact he
  rw [List.mem_filterMap]
  constructor
  · rintro ⟨e, he, hx⟩
    obtain ⟨rfl, hj⟩ := hf e c hx
    obtain ⟨k1, k2, k3⟩ := (h2 e).1 he
    refine ⟨k2, ?_⟩
    rw [← k1]
    revert hj
    cases e.2.1 <;> cases e.2.2 <;> simp
  · rintro ⟨k1, k2⟩
    obtain ⟨x, j⟩ := c
    simp only at k1 k2
    refine ⟨(x, !j, j), (h2 _).2 ⟨?_, k1, ?_⟩, ?_⟩
    · rw [← k2]; simp
    · cases j with
      | true => exact Or.inr (k1.1 rfl)
      | false => exact Or.inl (k2.1 rfl)
    · cases j <;> rfl

end Go.Proofs.Ytifeeneojlhffaa

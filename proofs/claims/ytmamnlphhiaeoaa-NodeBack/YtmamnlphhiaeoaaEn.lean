/-
  The plain mathematics of package entry: keys in their order, right lists, what is found, got, put and deleted.
-/
import Derived.Lib.Bytealg
import Derived.Lib.Strings
namespace Go.Proofs.Ytmamnlphhiaeoaa

/-- A key with its value. -/
abbrev En := ByteArray × ByteArray

/-- A key is below another one. -/
def ltK (a b : ByteArray) : Bool := Op.bytesLess a.toList b.toList

theorem bl_irrefl : ∀ x : List UInt8, Op.bytesLess x x = false
  | [] => rfl
  | a :: x => by simp [Op.bytesLess, bl_irrefl x]

theorem bl_trans : ∀ x y z : List UInt8, Op.bytesLess x y = true → Op.bytesLess y z = true → Op.bytesLess x z = true
  | _, _, [] => by intro h1 h2; cases ‹List UInt8› <;> simp [Op.bytesLess] at h2
  | _, [], _ :: _ => by intro h1; cases ‹List UInt8› <;> simp [Op.bytesLess] at h1
  | [], _ :: _, _ :: _ => by intros; rfl
  | a :: x, b :: y, c :: z => by
    intro h1 h2
    simp only [Op.bytesLess, Bool.or_eq_true, decide_eq_true_eq, Bool.and_eq_true, beq_iff_eq] at h1 h2 ⊢
    rcases h1 with h1 | ⟨rfl, h1⟩
    · rcases h2 with h2 | ⟨rfl, h2⟩
      · left; rw [UInt8.lt_iff_toNat_lt] at *; omega
      · exact Or.inl h1
    · rcases h2 with h2 | ⟨rfl, h2⟩
      · exact Or.inl h2
      · exact Or.inr ⟨rfl, bl_trans x y z h1 h2⟩

theorem bl_tri : ∀ x y : List UInt8, Op.bytesLess x y = false → Op.bytesLess y x = false → x = y
  | [], [] => fun _ _ => rfl
  | [], _ :: _ => fun h _ => by simp [Op.bytesLess] at h
  | _ :: _, [] => fun _ h => by simp [Op.bytesLess] at h
  | a :: x, b :: y => fun h1 h2 => by
    simp only [Op.bytesLess, Bool.or_eq_false_iff, decide_eq_false_iff_not, Bool.and_eq_false_iff, beq_eq_false_iff_ne] at h1 h2
    have e : a = b := by
      apply UInt8.toNat_inj.1
      have := h1.1
      have := h2.1
      rw [UInt8.lt_iff_toNat_lt] at *
      omega
    subst e
    have h3 := h1.2.resolve_left (by simp)
    have h4 := h2.2.resolve_left (by simp)
    rw [bl_tri x y h3 h4]

theorem cmp_bl : ∀ x y : List UInt8, (Lib.compareBytes x y < 0 ↔ Op.bytesLess x y = true) ∧ (Lib.compareBytes x y = 0 ↔ x = y)
  | [], [] => by simp [Lib.compareBytes, Op.bytesLess]
  | [], _ :: _ => by simp [Lib.compareBytes, Op.bytesLess]
  | _ :: _, [] => by simp [Lib.compareBytes, Op.bytesLess]
  | a :: x, b :: y => by
    have ih := cmp_bl x y
    rcases Nat.lt_trichotomy a.toNat b.toNat with c | c | c
    · have e1 : a < b := UInt8.lt_iff_toNat_lt.2 c
      have e2 : a ≠ b := by intro e; subst e; omega
      simp [Lib.compareBytes, Op.bytesLess, e1, e2]
    · have e1 : a = b := UInt8.toNat_inj.1 c
      subst e1
      simp [Lib.compareBytes, Op.bytesLess, ih]
    · have e1 : ¬ a < b := by rw [UInt8.lt_iff_toNat_lt]; omega
      have e2 : a ≠ b := by intro e; subst e; omega
      have e3 : b < a := UInt8.lt_iff_toNat_lt.2 c
      simp [Lib.compareBytes, Op.bytesLess, e1, e2, e3]

theorem baL_inj {a b : ByteArray} (h : a.toList = b.toList) : a = b := by
  rw [Lib.toList_data, Lib.toList_data] at h
  exact ByteArray.ext (Array.toList_inj.1 h)

theorem ltK_irrefl (a : ByteArray) : ltK a a = false := bl_irrefl _
theorem ltK_trans {a b c : ByteArray} (h1 : ltK a b = true) (h2 : ltK b c = true) : ltK a c = true := bl_trans _ _ _ h1 h2
theorem ltK_tri {a b : ByteArray} (h1 : ltK a b = false) (h2 : ltK b a = false) : a = b := baL_inj (bl_tri _ _ h1 h2)
theorem ltK_ne {a b : ByteArray} (h : ltK a b = true) : a ≠ b := by intro e; rw [e, ltK_irrefl] at h; cases h
theorem ltK_asymm {a b : ByteArray} (h : ltK a b = true) : ltK b a = false := by
  cases e : ltK b a
  · rfl
  · have := ltK_trans h e; rw [ltK_irrefl] at this; cases this
theorem ltK_of_not {a b : ByteArray} (h : ltK a b = false) (hne : a ≠ b) : ltK b a = true := by
  cases e : ltK b a
  · exact absurd (ltK_tri h e) hne
  · rfl
theorem ltK_ge_trans {a b c : ByteArray} (h1 : ltK a b = false) (h2 : ltK c b = true) : ltK c a = true := by
  by_cases e : a = b
  · rw [e]; exact h2
  · exact ltK_trans h2 (ltK_of_not h1 e)

/-- What strings.Compare says. -/
def cmpK (a b : ByteArray) : Int := Lib.compareBytes a.data.toList b.data.toList
theorem cmpK_lt (a b : ByteArray) : cmpK a b < 0 ↔ ltK a b = true := by
  unfold cmpK ltK; rw [Lib.toList_data, Lib.toList_data]; exact (cmp_bl _ _).1
theorem cmpK_eq (a b : ByteArray) : cmpK a b = 0 ↔ a = b := by
  unfold cmpK
  rw [(cmp_bl _ _).2]
  exact ⟨fun h => ByteArray.ext (Array.toList_inj.1 h), fun h => by rw [h]⟩

/-- There may be a key with a value. -/
def mayB (k v : ByteArray) : Bool := decide (1 ≤ k.size) && (decide (k.size ≤ 16) && decide (v.size ≤ 40))
theorem mayB_iff {k v : ByteArray} : mayB k v = true ↔ 1 ≤ k.size ∧ k.size ≤ 16 ∧ v.size ≤ 40 := by simp [mayB]
theorem mayB_no {k v : ByteArray} (h : mayB k v = false) : ¬ (1 ≤ k.size ∧ k.size ≤ 16 ∧ v.size ≤ 40) := fun c => by rw [mayB_iff.2 c] at h; cases h

/-- The entry at place i may be, and its key is above the one before. -/
def okE (l : List En) (i : Nat) : Bool := mayB l[i]!.1 l[i]!.2 && (i == 0 || ltK l[i - 1]!.1 l[i]!.1)
/-- A right list. -/
def rgB (l : List En) : Bool := (List.range l.length).all (okE l)

theorem rgB_yes {l : List En} (h : ∀ j, j < l.length → okE l j = true) : rgB l = true := by
  unfold rgB
  rw [List.all_eq_true]
  intro j hj
  exact h j (List.mem_range.1 hj)
theorem rgB_at {l : List En} (h : rgB l = true) (j : Nat) (hj : j < l.length) : okE l j = true := by
  unfold rgB at h
  rw [List.all_eq_true] at h
  exact h j (List.mem_range.2 hj)
theorem rgB_no {l : List En} (j : Nat) (hj : j < l.length) (h : okE l j = false) : rgB l = false := by
  cases e : rgB l
  · rfl
  · rw [rgB_at e j hj] at h; cases h

/-- Keys that rise. -/
def Up (l : List En) : Prop := l.Pairwise (fun x y => ltK x.1 y.1 = true)
structure Rg (l : List En) : Prop where
  up : Up l
  may : ∀ x ∈ l, mayB x.1 x.2 = true

theorem bang_get {l : List En} {i : Nat} (h : i < l.length) : l[i]! = l[i] := getElem!_pos l i h

theorem up_of {l : List En} (h : ∀ j, j + 1 < l.length → ltK l[j]!.1 l[j + 1]!.1 = true) : Up l := by
  have key : ∀ d i, i + d + 1 < l.length → ltK l[i]!.1 l[i + d + 1]!.1 = true := by
    intro d
    induction d with
    | zero => intro i hi; exact h i hi
    | succ d ih =>
      intro i hi
      exact ltK_trans (ih i (by omega)) (h (i + d + 1) hi)
  unfold Up
  rw [List.pairwise_iff_getElem]
  intro i j hi hj hij
  have := key (j - i - 1) i (by omega)
  rw [show i + (j - i - 1) + 1 = j by omega, bang_get hi, bang_get hj] at this
  exact this

theorem Up.at {l : List En} (h : Up l) {i j : Nat} (hij : i < j) (hj : j < l.length) : ltK l[i]!.1 l[j]!.1 = true := by
  have := (List.pairwise_iff_getElem.1 h) i j (by omega) hj hij
  rw [bang_get hj, bang_get (by omega)]
  exact this

theorem rg_of {l : List En} (h : rgB l = true) : Rg l := by
  refine ⟨up_of fun j hj => ?_, fun x hx => ?_⟩
  · have := rgB_at h (j + 1) hj
    unfold okE at this
    simp only [Bool.and_eq_true, Bool.or_eq_true] at this
    rcases this.2 with e | e
    · simp at e
    · exact e
  · obtain ⟨i, hi, rfl⟩ := List.getElem_of_mem hx
    have := rgB_at h i hi
    unfold okE at this
    simp only [Bool.and_eq_true] at this
    rw [bang_get hi] at this
    exact this.1

theorem rgB_of {l : List En} (h : Rg l) : rgB l = true := by
  refine rgB_yes fun j hj => ?_
  unfold okE
  rw [Bool.and_eq_true]
  refine ⟨h.may _ (by rw [bang_get hj]; exact List.getElem_mem hj), ?_⟩
  cases j with
  | zero => rfl
  | succ j => simp only [Bool.or_eq_true]; exact Or.inr (h.up.at (Nat.lt_succ_self j) hj)

theorem rgB_iff {l : List En} : rgB l = true ↔ Rg l := ⟨rg_of, rgB_of⟩

theorem Rg.nil : Rg [] := ⟨List.Pairwise.nil, fun _ h => by cases h⟩
theorem Rg.tail {x : En} {l : List En} (h : Rg (x :: l)) : Rg l := ⟨(List.pairwise_cons.1 h.up).2, fun y hy => h.may y (List.mem_cons_of_mem _ hy)⟩
theorem Rg.head {x : En} {l : List En} (h : Rg (x :: l)) : ∀ y ∈ l, ltK x.1 y.1 = true := (List.pairwise_cons.1 h.up).1
theorem Rg.cons {x : En} {l : List En} (h : Rg l) (hx : mayB x.1 x.2 = true) (hl : ∀ y ∈ l, ltK x.1 y.1 = true) : Rg (x :: l) :=
  ⟨List.pairwise_cons.2 ⟨hl, h.up⟩, fun y hy => by
    rcases List.mem_cons.1 hy with e | e
    · rw [e]; exact hx
    · exact h.may y e⟩
theorem Rg.sub {l m : List En} (h : Rg l) (s : m.Sublist l) : Rg m := ⟨h.up.sublist s, fun x hx => h.may x (s.subset hx)⟩

/-- Two right lists of the same entries are one. -/
theorem Rg.ext : ∀ {l m : List En}, Rg l → Rg m → (∀ x, x ∈ l ↔ x ∈ m) → l = m
  | [], [], _, _, _ => rfl
  | [], y :: m, _, _, h => by have := (h y).2 (List.mem_cons_self ..); cases this
  | x :: l, [], _, _, h => by have := (h x).1 (List.mem_cons_self ..); cases this
  | x :: l, y :: m, hl, hm, h => by
    have hxy : x = y := by
      rcases List.mem_cons.1 ((h x).1 (List.mem_cons_self ..)) with e | e
      · exact e
      · rcases List.mem_cons.1 ((h y).2 (List.mem_cons_self ..)) with f | f
        · exact f.symm
        · have a := hm.head x e
          have b := hl.head y f
          rw [ltK_asymm a] at b
          cases b
    subst hxy
    rw [Rg.ext hl.tail hm.tail fun z => ⟨fun hz => ?_, fun hz => ?_⟩]
    · rcases List.mem_cons.1 ((h z).1 (List.mem_cons_of_mem _ hz)) with e | e
      · exact absurd (hl.head z hz) (by rw [e, ltK_irrefl]; simp)
      · exact e
    · rcases List.mem_cons.1 ((h z).2 (List.mem_cons_of_mem _ hz)) with e | e
      · exact absurd (hm.head z hz) (by rw [e, ltK_irrefl]; simp)
      · exact e

theorem Rg.one {l : List En} (h : Rg l) {x y : En} (hx : x ∈ l) (hy : y ∈ l) (e : x.1 = y.1) : x = y := by
  obtain ⟨i, hi, rfl⟩ := List.getElem_of_mem hx
  obtain ⟨j, hj, rfl⟩ := List.getElem_of_mem hy
  rcases Nat.lt_trichotomy i j with c | c | c
  · have := h.up.at c hj; rw [bang_get hi, bang_get hj, e, ltK_irrefl] at this; cases this
  · subst c; rfl
  · have := h.up.at c hi; rw [bang_get hi, bang_get hj, e, ltK_irrefl] at this; cases this

/-- How many keys are below. -/
def fdN (l : List En) (k : ByteArray) : Nat := l.countP fun x => ltK x.1 k
/-- Whether there is a key. -/
def fdB (l : List En) (k : ByteArray) : Bool := l.any fun x => decide (x.1 = k)
/-- The value of a key, or the empty text. -/
def gtV : List En → ByteArray → ByteArray
  | [], _ => ⟨#[]⟩
  | x :: l, k => if x.1 = k then x.2 else gtV l k
/-- A list without a key. -/
def dlL (l : List En) (k : ByteArray) : List En := l.filter fun x => !decide (x.1 = k)
/-- An entry, in its place. -/
def insL (x : En) : List En → List En
  | [] => [x]
  | y :: l => if ltK x.1 y.1 = true then x :: y :: l else y :: insL x l
/-- A list with an entry. -/
def ptL (l : List En) (k v : ByteArray) : List En := insL (k, v) (dlL l k)

theorem fdB_iff {l : List En} {k : ByteArray} : fdB l k = true ↔ ∃ x ∈ l, x.1 = k := by simp [fdB]
theorem fdB_no {l : List En} {k : ByteArray} (h : fdB l k = false) : ∀ x ∈ l, x.1 ≠ k := fun x hx e => by
  have := fdB_iff.2 ⟨x, hx, e⟩; rw [h] at this; cases this
theorem gtV_of {l : List En} (h : Rg l) : ∀ {x : En}, x ∈ l → gtV l x.1 = x.2 := by
  induction l with
  | nil => intro x hx; cases hx
  | cons y l ih =>
    intro x hx
    unfold gtV
    by_cases c : y.1 = x.1
    · rw [if_pos c, h.one (List.mem_cons_self ..) hx c]
    · rw [if_neg c]
      rcases List.mem_cons.1 hx with e | e
      · rw [e] at c; exact absurd rfl c
      · exact ih h.tail e
theorem gtV_no {l : List En} {k : ByteArray} (h : fdB l k = false) : gtV l k = ⟨#[]⟩ := by
  induction l with
  | nil => rfl
  | cons y l ih =>
    have h1 := fdB_no h y (List.mem_cons_self ..)
    unfold gtV
    rw [if_neg h1]
    refine ih ?_
    cases e : fdB l k
    · rfl
    · obtain ⟨x, hx, e2⟩ := fdB_iff.1 e
      exact absurd e2 (fdB_no h x (List.mem_cons_of_mem _ hx))

/-- What the keys of two right lists say of one key. -/
theorem gt_same {l m : List En} {k : ByteArray} (hl : Rg l) (hm : Rg m) (h : ∀ v, (k, v) ∈ l ↔ (k, v) ∈ m) : fdB l k = fdB m k ∧ gtV l k = gtV m k := by
  cases e : fdB l k
  · cases f : fdB m k
    · exact ⟨rfl, by rw [gtV_no e, gtV_no f]⟩
    · obtain ⟨x, hx, rfl⟩ := fdB_iff.1 f
      exact absurd rfl (fdB_no e x ((h x.2).2 hx))
  · obtain ⟨x, hx, rfl⟩ := fdB_iff.1 e
    have hx2 : x ∈ m := (h x.2).1 hx
    rw [fdB_iff.2 ⟨x, hx2, rfl⟩, gtV_of hl hx, gtV_of hm hx2]
    exact ⟨rfl, rfl⟩

theorem dlL_rg {l : List En} (h : Rg l) (k : ByteArray) : Rg (dlL l k) := h.sub List.filter_sublist
theorem dlL_mem {l : List En} {k : ByteArray} {x : En} : x ∈ dlL l k ↔ x ∈ l ∧ x.1 ≠ k := by simp [dlL]
theorem dlL_none {l : List En} {k : ByteArray} (h : fdB l k = false) : dlL l k = l := by
  unfold dlL
  rw [List.filter_eq_self]
  intro x hx
  simp [fdB_no h x hx]

theorem insL_mem {x y : En} : ∀ {l : List En}, y ∈ insL x l ↔ y = x ∨ y ∈ l
  | [] => by simp [insL]
  | z :: l => by
    unfold insL
    by_cases c : ltK x.1 z.1 = true
    · rw [if_pos c]; simp
    · rw [if_neg c]
      simp only [List.mem_cons, insL_mem (l := l)]
      constructor
      · rintro (a | a | a)
        · exact Or.inr (Or.inl a)
        · exact Or.inl a
        · exact Or.inr (Or.inr a)
      · rintro (a | a | a)
        · exact Or.inr (Or.inl a)
        · exact Or.inl a
        · exact Or.inr (Or.inr a)

theorem insL_rg {x : En} (hx : mayB x.1 x.2 = true) : ∀ {l : List En}, Rg l → (∀ y ∈ l, y.1 ≠ x.1) → Rg (insL x l)
  | [], _, _ => Rg.cons Rg.nil hx fun _ h => by cases h
  | z :: l, h, hne => by
    unfold insL
    by_cases c : ltK x.1 z.1 = true
    · rw [if_pos c]
      refine h.cons hx fun y hy => ?_
      rcases List.mem_cons.1 hy with e | e
      · rw [e]; exact c
      · exact ltK_trans c (h.head y e)
    · rw [if_neg c]
      refine (insL_rg hx h.tail fun y hy => hne y (List.mem_cons_of_mem _ hy)).cons (h.may z (List.mem_cons_self ..)) fun y hy => ?_
      rcases insL_mem.1 hy with e | e
      · rw [e]
        exact ltK_of_not (by simpa using c) fun e2 => hne z (List.mem_cons_self ..) e2.symm
      · exact h.head y e

theorem ptL_rg {l : List En} {k v : ByteArray} (h : Rg l) (hm : mayB k v = true) : Rg (ptL l k v) :=
  insL_rg hm (dlL_rg h k) fun _ hy => (dlL_mem.1 hy).2
theorem ptL_mem {l : List En} {k v : ByteArray} {x : En} : x ∈ ptL l k v ↔ x = (k, v) ∨ (x ∈ l ∧ x.1 ≠ k) := by
  unfold ptL; rw [insL_mem, dlL_mem]

/-- What stands ahead of a key's place is below it, and what stands behind is not. -/
theorem fdN_at {l : List En} (h : Rg l) (k : ByteArray) : fdN l k ≤ l.length ∧ (∀ j, j < fdN l k → ltK l[j]!.1 k = true) ∧ (∀ j, fdN l k ≤ j → j < l.length → ltK l[j]!.1 k = false) := by
  induction l with
  | nil => exact ⟨Nat.le_refl _, fun j hj => by simp [fdN] at hj, fun j _ hj => by simp at hj⟩
  | cons x l ih =>
    obtain ⟨i1, i2, i3⟩ := ih h.tail
    cases c : ltK x.1 k
    · have e : fdN (x :: l) k = fdN l k := by simp [fdN, c]
      have z : fdN l k = 0 := by
        unfold fdN
        rw [List.countP_eq_zero]
        intro y hy hc
        have := ltK_trans (h.head y hy) hc
        rw [c] at this
        cases this
      rw [e, z]
      refine ⟨Nat.zero_le _, fun j hj => absurd hj (Nat.not_lt_zero _), fun j _ hj => ?_⟩
      cases j with
      | zero => exact c
      | succ j => have := i3 j (by omega) (by simpa using hj); simpa using this
    · have e : fdN (x :: l) k = fdN l k + 1 := by simp [fdN, c]
      rw [e]
      refine ⟨by simp; omega, fun j hj => ?_, fun j hj hl => ?_⟩
      · cases j with
        | zero => exact c
        | succ j => have := i2 j (by omega); simpa using this
      · cases j with
        | zero => omega
        | succ j => have := i3 j (by omega) (by simpa using hl); simpa using this

theorem fdN_of {l : List En} {k : ByteArray} {i : Nat} (h : Rg l) (hi : i ≤ l.length) (h1 : ∀ j, j < i → ltK l[j]!.1 k = true) (h2 : ∀ j, i ≤ j → j < l.length → ltK l[j]!.1 k = false) : i = fdN l k := by
  obtain ⟨a, b, c⟩ := fdN_at h k
  rcases Nat.lt_trichotomy i (fdN l k) with d | d | d
  · have := h2 i (Nat.le_refl _) (by omega); rw [b i d] at this; cases this
  · exact d
  · have := h1 _ d; rw [c _ (Nat.le_refl _) (by omega)] at this; cases this

/-- Whether there is a key is told at its place. -/
theorem fdB_at {l : List En} (h : Rg l) (k : ByteArray) : fdB l k = true ↔ fdN l k < l.length ∧ l[fdN l k]!.1 = k := by
  obtain ⟨a, b, c⟩ := fdN_at h k
  constructor
  · intro hf
    obtain ⟨x, hx, e⟩ := fdB_iff.1 hf
    obtain ⟨i, hi, rfl⟩ := List.getElem_of_mem hx
    rcases Nat.lt_trichotomy i (fdN l k) with d | d | d
    · have := b i d; rw [bang_get hi, e, ltK_irrefl] at this; cases this
    · rw [← d]; exact ⟨hi, by rw [bang_get hi]; exact e⟩
    · have h1 := h.up.at d hi
      rw [bang_get hi, e] at h1
      rw [c _ (Nat.le_refl _) (by omega)] at h1
      cases h1
  · rintro ⟨d, e⟩
    exact fdB_iff.2 ⟨l[fdN l k]!, by rw [bang_get d]; exact List.getElem_mem d, e⟩

theorem gtV_at {l : List En} (h : Rg l) {k : ByteArray} (hf : fdB l k = true) : gtV l k = l[fdN l k]!.2 := by
  obtain ⟨d, e⟩ := (fdB_at h k).1 hf
  have := gtV_of h (x := l[fdN l k]!) (by rw [bang_get d]; exact List.getElem_mem d)
  rw [e] at this
  exact this

theorem mem_take_bang {l : List En} {i : Nat} {x : En} (h : x ∈ l.take i) : ∃ j, j < i ∧ j < l.length ∧ l[j]! = x := by
  obtain ⟨j, hj, rfl⟩ := List.getElem_of_mem h
  have h2 := hj
  rw [List.length_take] at h2
  exact ⟨j, by omega, by omega, by rw [bang_get (by omega)]; simp⟩
theorem mem_drop_bang {l : List En} {i : Nat} {x : En} (h : x ∈ l.drop i) : ∃ j, i ≤ j ∧ j < l.length ∧ l[j]! = x := by
  obtain ⟨j, hj, rfl⟩ := List.getElem_of_mem h
  simp at hj
  exact ⟨i + j, by omega, by omega, by rw [bang_get (by omega)]; simp⟩
theorem bang_take {l : List En} {i j : Nat} (h : j < i) (hl : j < l.length) : l[j]! ∈ l.take i := by
  rw [bang_get hl]
  have : j < (l.take i).length := by simp; omega
  have e : (l.take i)[j] = l[j] := by simp
  rw [← e]
  exact List.getElem_mem this
theorem bang_drop {l : List En} {i j : Nat} (h : i ≤ j) (hl : j < l.length) : l[j]! ∈ l.drop i := by
  rw [bang_get hl]
  obtain ⟨d, rfl⟩ := Nat.le.dest h
  have : d < (l.drop i).length := by simp; omega
  have e : (l.drop i)[d] = l[i + d] := by simp
  rw [← e]
  exact List.getElem_mem this

theorem rg_parts {l : List En} {i j : Nat} {m : List En} (h : Rg l) (hij : i ≤ j) (hm : Rg m) (h1 : ∀ x ∈ l.take i, ∀ y ∈ m, ltK x.1 y.1 = true) (h2 : ∀ x ∈ m, ∀ y ∈ l.drop j, ltK x.1 y.1 = true) : Rg (l.take i ++ m ++ l.drop j) := by
  refine ⟨?_, fun x hx => ?_⟩
  · unfold Up
    rw [List.append_assoc, List.pairwise_append, List.pairwise_append]
    refine ⟨h.up.sublist (List.take_sublist ..), ⟨hm.up, h.up.sublist (List.drop_sublist ..), h2⟩, fun x hx y hy => ?_⟩
    rcases List.mem_append.1 hy with e | e
    · exact h1 x hx y e
    · obtain ⟨a, a1, a2, rfl⟩ := mem_take_bang hx
      obtain ⟨b, b1, b2, rfl⟩ := mem_drop_bang e
      exact h.up.at (by omega) b2
  · rcases List.mem_append.1 hx with e | e
    · rcases List.mem_append.1 e with f | f
      · exact h.may x (List.mem_of_mem_take f)
      · exact hm.may x f
    · exact h.may x (List.mem_of_mem_drop e)

theorem dlL_cut {l : List En} (h : Rg l) {k : ByteArray} (hf : fdB l k = true) : l.take (fdN l k) ++ l.drop (fdN l k + 1) = dlL l k := by
  obtain ⟨d, e⟩ := (fdB_at h k).1 hf
  have hp := rg_parts (m := []) h (Nat.le_succ (fdN l k)) Rg.nil (fun _ _ _ h => by cases h) (fun _ h => by cases h)
  rw [List.append_nil] at hp
  refine Rg.ext hp (dlL_rg h k) fun x => ?_
  rw [dlL_mem, List.mem_append]
  constructor
  · rintro (a | a)
    · obtain ⟨j, j1, j2, rfl⟩ := mem_take_bang a
      refine ⟨List.mem_of_mem_take a, ?_⟩
      have := h.up.at j1 d
      rw [e] at this
      exact ltK_ne this
    · obtain ⟨j, j1, j2, rfl⟩ := mem_drop_bang a
      refine ⟨List.mem_of_mem_drop a, ?_⟩
      have := h.up.at (show fdN l k < j by omega) j2
      rw [e] at this
      exact (ltK_ne this).symm
  · rintro ⟨a, b⟩
    obtain ⟨j, hj, rfl⟩ := List.getElem_of_mem a
    rw [← bang_get hj] at b ⊢
    rcases Nat.lt_trichotomy j (fdN l k) with c | c | c
    · exact Or.inl (bang_take c hj)
    · rw [c] at b; exact absurd e b
    · exact Or.inr (bang_drop (by omega) hj)

theorem one_rg {k v : ByteArray} (hm : mayB k v = true) : Rg [(k, v)] := Rg.cons Rg.nil hm fun _ h => by cases h

theorem ptL_cut {l : List En} (h : Rg l) {k v : ByteArray} (hm : mayB k v = true) {j : Nat} (hj : j = if fdB l k = true then fdN l k + 1 else fdN l k) : l.take (fdN l k) ++ [(k, v)] ++ l.drop j = ptL l k v := by
  obtain ⟨a1, a2, a3⟩ := fdN_at h k
  have hle : fdN l k ≤ j := by rw [hj]; split <;> omega
  have hdrop : ∀ i, j ≤ i → i < l.length → ltK k l[i]!.1 = true := by
    intro i h1 h2
    by_cases c : fdB l k = true
    · rw [if_pos c] at hj
      obtain ⟨d, e⟩ := (fdB_at h k).1 c
      have := h.up.at (show fdN l k < i by omega) h2
      rwa [e] at this
    · rw [if_neg c] at hj
      refine ltK_of_not (a3 i (by omega) h2) fun e => c (fdB_iff.2 ⟨l[i]!, ?_, e⟩)
      rw [bang_get h2]; exact List.getElem_mem h2
  have hp := rg_parts (m := [(k, v)]) h hle (one_rg hm) (fun x hx y hy => by
    obtain ⟨i, i1, i2, rfl⟩ := mem_take_bang hx
    rw [List.mem_singleton.1 hy]
    exact a2 i i1) (fun x hx y hy => by
    obtain ⟨i, i1, i2, rfl⟩ := mem_drop_bang hy
    rw [List.mem_singleton.1 hx]
    exact hdrop i i1 i2)
  refine Rg.ext hp (ptL_rg h hm) fun x => ?_
  rw [ptL_mem, List.mem_append, List.mem_append, List.mem_singleton]
  constructor
  · rintro ((a | a) | a)
    · obtain ⟨i, i1, i2, rfl⟩ := mem_take_bang a
      exact Or.inr ⟨List.mem_of_mem_take a, ltK_ne (a2 i i1)⟩
    · exact Or.inl a
    · obtain ⟨i, i1, i2, rfl⟩ := mem_drop_bang a
      exact Or.inr ⟨List.mem_of_mem_drop a, (ltK_ne (hdrop i i1 i2)).symm⟩
  · rintro (a | ⟨a, b⟩)
    · exact Or.inl (Or.inr a)
    · obtain ⟨i, hi, rfl⟩ := List.getElem_of_mem a
      rw [← bang_get hi] at b ⊢
      by_cases c : i < fdN l k
      · exact Or.inl (Or.inl (bang_take c hi))
      · refine Or.inr (bang_drop ?_ hi)
        rw [hj]
        by_cases f : fdB l k = true
        · rw [if_pos f]
          obtain ⟨d, e⟩ := (fdB_at h k).1 f
          rcases Nat.lt_or_ge (fdN l k) i with g | g
          · omega
          · have : i = fdN l k := by omega
            rw [this] at b; exact absurd e b
        · rw [if_neg f]; omega

end Go.Proofs.Ytmamnlphhiaeoaa

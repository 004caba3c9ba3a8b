/-
  Plain facts on the stable sort of Go's slices package: rows as arrays, a rotation of two neighbouring parts, the merge by rotations (symMerge), blocks that grow. 'Stab': what no two of which are told apart stays in its order.
-/
import Derived.Sort.LotA
namespace Go.Proofs.Ytifeeneojlhffaa
open Go.Sort
variable {α : Type}

def Stab (lt : α → α → Bool) (l l' : List α) : Prop :=
  ∀ q : α → Bool, (∀ x y, q x = true → q y = true → lt x y = false) → l.filter q = l'.filter q

theorem Stab.refl (lt : α → α → Bool) (l : List α) : Stab lt l l := fun _ _ => rfl
theorem Stab.trans {lt : α → α → Bool} {a b c : List α} (h : Stab lt a b) (g : Stab lt b c) : Stab lt a c := fun q hq => (h q hq).trans (g q hq)

theorem stab_rot (lt : α → α → Bool) (L U V R : List α) (h : ∀ y ∈ V, ∀ x ∈ U, lt y x = true) : Stab lt (L ++ (U ++ (V ++ R))) (L ++ (V ++ (U ++ R))) := by
  intro q hq
  have key : U.filter q ++ V.filter q = V.filter q ++ U.filter q := by
    by_cases hu : U.filter q = []
    · rw [hu]; simp
    · obtain ⟨x, hx⟩ := List.exists_mem_of_ne_nil _ hu
      rw [List.mem_filter] at hx
      have : V.filter q = [] := by
        rw [List.filter_eq_nil_iff]
        intro y hy hqy
        have := h y hy x hx.1
        rw [hq y x hqy hx.2] at this
        cases this
      rw [this]; simp
  simp only [List.filter_append]
  rw [← List.append_assoc (U.filter q), key, List.append_assoc]

variable [Inhabited α]

/-- d' is d with the parts [s, m) and [m, e) exchanged. -/
structure Rot (d : Array α) (s m e : Nat) (d' : Array α) : Prop where
  sz : d'.size = d.size
  sm : s ≤ m
  me : m ≤ e
  es : e ≤ d.size
  out : ∀ x, x < s ∨ e ≤ x → d'[x]! = d[x]!
  left : ∀ t, t < e - m → d'[s + t]! = d[m + t]!
  right : ∀ t, t < m - s → d'[s + (e - m) + t]! = d[s + t]!

theorem Rot.same (d : Array α) (s e : Nat) (h : s ≤ e) (he : e ≤ d.size) (m : Nat) (hm : m = s ∨ m = e) : Rot d s m e d := by
  refine ⟨rfl, by omega, by omega, he, fun _ _ => rfl, fun t ht => ?_, fun t ht => ?_⟩
  · rcases hm with rfl | rfl
    · rfl
    · omega
  · rcases hm with rfl | rfl
    · omega
    · simp

theorem get_bang_ext {d d' : Array α} (hs : d.size = d'.size) (h : ∀ i, i < d.size → d[i]! = d'[i]!) : d = d' := by
  apply Array.ext hs
  intro i h1 h2
  have := h i h1
  rwa [getElem!_pos d i h1, getElem!_pos d' i h2] at this

theorem bang_list (d : Array α) (i : Nat) : d[i]! = d.toList[i]! := by
  by_cases h : i < d.size
  · rw [getElem!_pos d i h, getElem!_pos d.toList i (by simpa using h)]; simp
  · rw [getElem!_neg d i h, getElem!_neg d.toList i (by simpa using h)]

theorem list_bang_ext {l l' : List α} (hs : l.length = l'.length) (h : ∀ i, i < l.length → l[i]! = l'[i]!) : l = l' := by
  apply List.ext_getElem hs
  intro i h1 h2
  have := h i h1
  rwa [getElem!_pos l i h1, getElem!_pos l' i h2] at this

theorem seg_get (l : List α) (s n i : Nat) (h : i < n) : ((l.drop s).take n)[i]! = l[s + i]! := by
  by_cases hh : s + i < l.length
  · rw [getElem!_pos l (s + i) hh, getElem!_pos _ i (by simp; omega)]; simp
  · rw [getElem!_neg l (s + i) hh, getElem!_neg _ i (by simp; omega)]

theorem app_left (l r : List α) (i : Nat) (h : i < l.length) : (l ++ r)[i]! = l[i]! := by
  rw [getElem!_pos l i h, getElem!_pos (l ++ r) i (by simp; omega)]
  exact List.getElem_append_left h

theorem app_right (l r : List α) (i : Nat) : (l ++ r)[l.length + i]! = r[i]! := by
  by_cases h : i < r.length
  · rw [getElem!_pos r i h, getElem!_pos (l ++ r) _ (by simp; omega)]
    simp
  · rw [getElem!_neg r i h, getElem!_neg (l ++ r) _ (by simp; omega)]

theorem Rot.lists {d d' : Array α} {s m e : Nat} (h : Rot d s m e d') :
    ∃ L U V R, d.toList = L ++ (U ++ (V ++ R)) ∧ d'.toList = L ++ (V ++ (U ++ R)) ∧ L.length = s ∧ U.length = m - s ∧ V.length = e - m ∧ (∀ x ∈ U, ∃ i, s ≤ i ∧ i < m ∧ x = d[i]!) ∧ (∀ y ∈ V, ∃ i, m ≤ i ∧ i < e ∧ y = d[i]!) := by
  have h1 := h.sm; have h2 := h.me; have h3 := h.es; have h4 := h.sz
  have hl : d.toList.length = d.size := by simp
  obtain ⟨L, hL⟩ : ∃ L, L = (d.toList.drop 0).take s := ⟨_, rfl⟩
  obtain ⟨U, hU⟩ : ∃ U, U = (d.toList.drop s).take (m - s) := ⟨_, rfl⟩
  obtain ⟨V, hV⟩ : ∃ V, V = (d.toList.drop m).take (e - m) := ⟨_, rfl⟩
  obtain ⟨R, hR⟩ : ∃ R, R = (d.toList.drop e).take (d.size - e) := ⟨_, rfl⟩
  have nL : L.length = s := by rw [hL]; simp; omega
  have nU : U.length = m - s := by rw [hU]; simp; omega
  have nV : V.length = e - m := by rw [hV]; simp; omega
  have nR : R.length = d.size - e := by rw [hR]; simp
  have gL : ∀ i, i < s → L[i]! = d[i]! := fun i hi => by rw [hL, seg_get _ _ _ _ hi, bang_list]; simp
  have gU : ∀ i, i < m - s → U[i]! = d[s + i]! := fun i hi => by rw [hU, seg_get _ _ _ _ hi, bang_list]
  have gV : ∀ i, i < e - m → V[i]! = d[m + i]! := fun i hi => by rw [hV, seg_get _ _ _ _ hi, bang_list]
  have gR : ∀ i, i < d.size - e → R[i]! = d[e + i]! := fun i hi => by rw [hR, seg_get _ _ _ _ hi, bang_list]
  refine ⟨L, U, V, R, ?_, ?_, nL, nU, nV, ?_, ?_⟩
  · apply list_bang_ext
    · simp only [List.length_append]; omega
    · intro i hi
      rw [← bang_list]
      by_cases c1 : i < s
      · rw [app_left _ _ _ (by omega), gL _ c1]
      · obtain ⟨j, rfl⟩ : ∃ j, i = L.length + j := ⟨i - L.length, by omega⟩
        rw [app_right]
        by_cases c2 : j < m - s
        · rw [app_left _ _ _ (by omega), gU _ c2, nL]
        · obtain ⟨k, rfl⟩ : ∃ k, j = U.length + k := ⟨j - U.length, by omega⟩
          rw [app_right]
          by_cases c3 : k < e - m
          · rw [app_left _ _ _ (by omega), gV _ c3]; congr 1; omega
          · obtain ⟨q, rfl⟩ : ∃ q, k = V.length + q := ⟨k - V.length, by omega⟩
            rw [app_right, gR _ (by omega)]; congr 1; omega
  · apply list_bang_ext
    · simp only [List.length_append, Array.length_toList]; omega
    · intro i hi
      rw [← bang_list]
      have hi' : i < d.size := by simpa [h4] using hi
      by_cases c1 : i < s
      · rw [app_left _ _ _ (by omega), gL _ c1, h.out _ (Or.inl c1)]
      · obtain ⟨j, rfl⟩ : ∃ j, i = L.length + j := ⟨i - L.length, by omega⟩
        rw [app_right]
        by_cases c2 : j < e - m
        · rw [app_left _ _ _ (by omega), gV _ c2, nL, h.left _ c2]
        · obtain ⟨k, rfl⟩ : ∃ k, j = V.length + k := ⟨j - V.length, by omega⟩
          rw [app_right]
          by_cases c3 : k < m - s
          · rw [app_left _ _ _ (by omega), gU _ c3, ← h.right _ c3]; congr 1; omega
          · obtain ⟨q, rfl⟩ : ∃ q, k = U.length + q := ⟨k - U.length, by omega⟩
            rw [app_right, gR _ (by omega), ← h.out _ (Or.inr (by omega))]; congr 1; omega
  · intro x hx
    obtain ⟨i, hi, rfl⟩ := List.getElem_of_mem hx
    refine ⟨s + i, by omega, by omega, ?_⟩
    rw [← gU i (by omega), getElem!_pos U i hi]
  · intro x hx
    obtain ⟨i, hi, rfl⟩ := List.getElem_of_mem hx
    refine ⟨m + i, by omega, by omega, ?_⟩
    rw [← gV i (by omega), getElem!_pos V i hi]

theorem Rot.stab {lt : α → α → Bool} {d d' : Array α} {s m e : Nat} (h : Rot d s m e d') (hl : ∀ y, m ≤ y → y < e → ∀ x, s ≤ x → x < m → lt d[y]! d[x]! = true) : Stab lt d.toList d'.toList := by
  obtain ⟨L, U, V, R, e1, e2, _, _, _, hU, hV⟩ := h.lists
  rw [e1, e2]
  apply stab_rot
  intro y hy x hx
  obtain ⟨i, i1, i2, rfl⟩ := hU x hx
  obtain ⟨j, j1, j2, rfl⟩ := hV y hy
  exact hl j j1 j2 i i1 i2

/-! ### the runs of exchanges -/
def sr (d : Array α) (a b : Nat) : Nat → Array α
  | 0 => d
  | t + 1 => swp (sr d a b t) (a + t) (b + t)

theorem sr_size (d : Array α) (a b n : Nat) : (sr d a b n).size = d.size := by
  induction n with
  | zero => rfl
  | succ n ih => rw [sr, swp_size, ih]

theorem sr_spec (d : Array α) (a b : Nat) : ∀ n, a + n ≤ b → b + n ≤ d.size →
    (∀ t, t < n → (sr d a b n)[a + t]! = d[b + t]!) ∧ (∀ t, t < n → (sr d a b n)[b + t]! = d[a + t]!) ∧ (∀ x, (x < a ∨ a + n ≤ x) → (x < b ∨ b + n ≤ x) → (sr d a b n)[x]! = d[x]!)
  | 0, _, _ => ⟨fun t h => by omega, fun t h => by omega, fun _ _ _ => rfl⟩
  | n + 1, h1, h2 => by
    obtain ⟨i1, i2, i3⟩ := sr_spec d a b n (by omega) (by omega)
    have sz := sr_size d a b n
    have ga : a + n < (sr d a b n).size := by omega
    have gb : b + n < (sr d a b n).size := by omega
    refine ⟨fun t ht => ?_, fun t ht => ?_, fun x hx hy => ?_⟩
    · by_cases e : t = n
      · rw [e, sr, swp_left _ _ _ ga (by omega), i3 _ (by omega) (by omega)]
      · rw [sr, swp_other _ _ _ _ (by omega) (by omega), i1 t (by omega)]
    · by_cases e : t = n
      · rw [e, sr, swp_right _ _ _ gb, i3 _ (by omega) (by omega)]
      · rw [sr, swp_other _ _ _ _ (by omega) (by omega), i2 t (by omega)]
    · rw [sr, swp_other _ _ _ _ (by omega) (by omega), i3 x (by omega) (by omega)]

theorem rot_even (d : Array α) (m i : Nat) (hi : i ≤ m) (hs : m + i ≤ d.size) : Rot d (m - i) m (m + i) (sr d (m - i) m i) := by
  obtain ⟨h1, h2, h3⟩ := sr_spec d (m - i) m i (by omega) hs
  refine ⟨sr_size _ _ _ _, by omega, by omega, hs, fun x hx => h3 x (by omega) (by omega), fun t ht => h1 t (by omega), fun t ht => ?_⟩
  have := h2 t (by omega)
  rw [← this]; congr 1; omega

theorem rot_more_left (d d' : Array α) (m i j : Nat) (hi : i ≤ m) (hj : j < i) (hs : m + j ≤ d.size) (h : Rot (sr d (m - i) m j) (m - (i - j)) m (m + j) d') : Rot d (m - i) m (m + j) d' := by
  obtain ⟨h1, h2, h3⟩ := sr_spec d (m - i) m j (by omega) hs
  have hz := sr_size d (m - i) m j
  refine ⟨h.sz.trans hz, by omega, by omega, hs, fun x hx => ?_, fun t ht => ?_, fun t ht => ?_⟩
  · rw [h.out x (by omega), h3 x (by omega) (by omega)]
  · rw [h.out _ (by omega), h1 t (by omega)]
  · by_cases c : t < j
    · have e := h.left t (by omega)
      rw [h2 t c] at e
      rw [← e]; congr 1; omega
    · have e := h.right (t - j) (by omega)
      rw [h3 _ (by omega) (by omega)] at e
      have e1 : m - i + (m + j - m) + t = m - (i - j) + (m + j - m) + (t - j) := by omega
      have e2 : m - (i - j) + (t - j) = m - i + t := by omega
      rw [e1, e, e2]

theorem rot_more_right (d d' : Array α) (m i j : Nat) (hi : i ≤ m) (hj : i < j) (hs : m + j ≤ d.size) (h : Rot (sr d (m - i) (m + j - i) i) (m - i) m (m + (j - i)) d') : Rot d (m - i) m (m + j) d' := by
  obtain ⟨h1, h2, h3⟩ := sr_spec d (m - i) (m + j - i) i (by omega) (by omega)
  have hz := sr_size d (m - i) (m + j - i) i
  refine ⟨h.sz.trans hz, by omega, by omega, hs, fun x hx => ?_, fun t ht => ?_, fun t ht => ?_⟩
  · rw [h.out x (by omega), h3 x (by omega) (by omega)]
  · by_cases c : t < j - i
    · rw [h.left t (by omega), h3 _ (by omega) (by omega)]
    · have e := h.right (t - (j - i)) (by omega)
      rw [h1 _ (by omega)] at e
      have e1 : m - i + (m + (j - i) - m) + (t - (j - i)) = m - i + t := by omega
      have e2 : m + j - i + (t - (j - i)) = m + t := by omega
      rw [e1, e2] at e
      exact e
  · rw [h.out _ (by omega)]
    have := h2 t (by omega)
    rw [← this]; congr 1; omega

def up (d : Array α) (a : Nat) : Nat → Array α
  | 0 => d
  | n + 1 => swp (up d a n) (a + n) (a + n + 1)

theorem up_size (d : Array α) (a n : Nat) : (up d a n).size = d.size := by
  induction n with
  | zero => rfl
  | succ n ih => rw [up, swp_size, ih]

theorem up_spec (d : Array α) (a : Nat) : ∀ n, a + n < d.size →
    (∀ t, t < n → (up d a n)[a + t]! = d[a + 1 + t]!) ∧ (up d a n)[a + n]! = d[a]! ∧ (∀ x, (x < a ∨ a + n < x) → (up d a n)[x]! = d[x]!)
  | 0, _ => ⟨fun t h => by omega, by simp [up], fun _ _ => rfl⟩
  | n + 1, h => by
    obtain ⟨i1, i2, i3⟩ := up_spec d a n (by omega)
    have sz := up_size d a n
    refine ⟨fun t ht => ?_, ?_, fun x hx => ?_⟩
    · by_cases e : t = n
      · rw [e, up, swp_left _ _ _ (by omega) (by omega), i3 _ (by omega)]; congr 1; omega
      · rw [up, swp_other _ _ _ _ (by omega) (by omega), i1 t (by omega)]
    · show (swp (up d a n) (a + n) (a + n + 1))[a + n + 1]! = _
      rw [swp_right _ _ _ (by omega), i2]
    · rw [up, swp_other _ _ _ _ (by omega) (by omega), i3 x (by omega)]

theorem up_rot (d : Array α) (a n : Nat) (h : a + n < d.size) : Rot d a (a + 1) (a + 1 + n) (up d a n) := by
  obtain ⟨h1, h2, h3⟩ := up_spec d a n h
  refine ⟨up_size _ _ _, by omega, by omega, by omega, fun x hx => h3 x (by omega), fun t ht => h1 t (by omega), fun t ht => ?_⟩
  obtain rfl : t = 0 := by omega
  have e1 : a + (a + 1 + n - (a + 1)) + 0 = a + n := by omega
  rw [e1, h2, Nat.add_zero]

def dn (d : Array α) (m : Nat) : Nat → Array α
  | 0 => d
  | n + 1 => swp (dn d m n) (m - n) (m - n - 1)

theorem dn_size (d : Array α) (m n : Nat) : (dn d m n).size = d.size := by
  induction n with
  | zero => rfl
  | succ n ih => rw [dn, swp_size, ih]

theorem dn_spec (d : Array α) (m : Nat) (hm : m < d.size) : ∀ n, n ≤ m →
    (∀ t, t < n → (dn d m n)[m - n + 1 + t]! = d[m - n + t]!) ∧ (dn d m n)[m - n]! = d[m]! ∧ (∀ x, (x < m - n ∨ m < x) → (dn d m n)[x]! = d[x]!)
  | 0, _ => ⟨fun t h => by omega, by simp [dn], fun _ _ => rfl⟩
  | n + 1, h => by
    obtain ⟨i1, i2, i3⟩ := dn_spec d m hm n (by omega)
    have sz := dn_size d m n
    refine ⟨fun t ht => ?_, ?_, fun x hx => ?_⟩
    · by_cases e : t = 0
      · subst e
        have e1 : m - (n + 1) + 1 + 0 = m - n := by omega
        rw [e1, dn, swp_left _ _ _ (by omega) (by omega), i3 _ (by omega)]; congr 1
      · rw [dn, swp_other _ _ _ _ (by omega) (by omega)]
        have := i1 (t - 1) (by omega)
        have e1 : m - n + 1 + (t - 1) = m - (n + 1) + 1 + t := by omega
        have e2 : m - n + (t - 1) = m - (n + 1) + t := by omega
        rwa [e1, e2] at this
    · have e1 : m - (n + 1) = m - n - 1 := by omega
      rw [e1, dn, swp_right _ _ _ (by omega), i2]
    · rw [dn, swp_other _ _ _ _ (by omega) (by omega), i3 x (by omega)]

theorem dn_rot (d : Array α) (m n : Nat) (hm : m < d.size) (h : n ≤ m) : Rot d (m - n) m (m + 1) (dn d m n) := by
  obtain ⟨h1, h2, h3⟩ := dn_spec d m hm n h
  refine ⟨dn_size _ _ _, by omega, by omega, by omega, fun x hx => h3 x (by omega), fun t ht => ?_, fun t ht => ?_⟩
  · obtain rfl : t = 0 := by omega
    rw [Nat.add_zero, Nat.add_zero, h2]
  · have := h1 t (by omega)
    rw [← this]; congr 1; omega

/-! ### merged -/
structure Merged (lt : α → α → Bool) (a b : Nat) (d d' : Array α) : Prop where
  sz : d'.size = d.size
  out : ∀ x, x < a ∨ b ≤ x → d'[x]! = d[x]!
  img : ∀ x, a ≤ x → x < b → ∃ y, a ≤ y ∧ y < b ∧ d'[x]! = d[y]!
  srt : SortedIn lt a b d'
  stab : Stab lt d.toList d'.toList

theorem Merged.refl {lt : α → α → Bool} {a b : Nat} {d : Array α} (h : SortedIn lt a b d) : Merged lt a b d d :=
  ⟨rfl, fun _ _ => rfl, fun x h1 h2 => ⟨x, h1, h2, rfl⟩, h, Stab.refl _ _⟩

/-- Two parts, each to be merged for itself, the one at most the other. -/
structure Cutted (lt : α → α → Bool) (a mid b : Nat) (d d1 : Array α) : Prop where
  sz : d1.size = d.size
  out : ∀ x, x < a ∨ b ≤ x → d1[x]! = d[x]!
  img : ∀ x, a ≤ x → x < b → ∃ y, a ≤ y ∧ y < b ∧ d1[x]! = d[y]!
  cross : ∀ x y, a ≤ x → x < mid → mid ≤ y → y < b → lt d1[y]! d1[x]! = false
  stab : Stab lt d.toList d1.toList

theorem Cutted.glue {lt : α → α → Bool} {a mid b : Nat} {d d1 d2 d3 : Array α} (hm : a ≤ mid) (hb : mid ≤ b) (h : Cutted lt a mid b d d1) (h1 : Merged lt a mid d1 d2) (h2 : Merged lt mid b d2 d3) : Merged lt a b d d3 := by
  refine ⟨h2.sz.trans (h1.sz.trans h.sz), fun x hx => ?_, fun x hx1 hx2 => ?_, ?_, h.stab.trans (h1.stab.trans h2.stab)⟩
  · rw [h2.out x (by omega), h1.out x (by omega), h.out x hx]
  · by_cases c : x < mid
    · obtain ⟨y, y1, y2, e⟩ := h1.img x hx1 c
      obtain ⟨z, z1, z2, e'⟩ := h.img y y1 (by omega)
      exact ⟨z, z1, z2, by rw [h2.out x (by omega), e, e']⟩
    · obtain ⟨y, y1, y2, e⟩ := h2.img x (by omega) hx2
      obtain ⟨z, z1, z2, e'⟩ := h.img y (by omega) y2
      exact ⟨z, z1, z2, by rw [e, h1.out y (by omega), e']⟩
  · intro i j hi hij hj
    by_cases c1 : j < mid
    · rw [h2.out j (by omega), h2.out i (by omega)]
      exact h1.srt i j hi hij c1
    · by_cases c2 : mid ≤ i
      · exact h2.srt i j c2 hij hj
      · obtain ⟨y, y1, y2, e⟩ := h2.img j (by omega) hj
        obtain ⟨x, x1, x2, e'⟩ := h1.img i hi (by omega)
        rw [e, h1.out y (by omega), h2.out i (by omega), e']
        exact h.cross x y x1 x2 y1 y2

/-- A rotation that exchanges the greater ones of the left with the lesser ones of the right. -/
theorem cut_of_rot {lt : α → α → Bool} (hO : SWO lt) {a s m e b : Nat} {d d1 : Array α} (has : a ≤ s) (heb : e ≤ b) (_hb : b ≤ d.size) (h : Rot d s m e d1)
    (hA : SortedIn lt a m d) (hB : SortedIn lt m b d)
    (c1 : ∀ x y, a ≤ x → x < s → e ≤ y → y < b → lt d[y]! d[x]! = false) (c2 : ∀ x y, s ≤ x → x < m → m ≤ y → y < e → lt d[y]! d[x]! = true) :
    Cutted lt a (s + (e - m)) b d d1 ∧ SortedIn lt a s d1 ∧ SortedIn lt s (s + (e - m)) d1 ∧ SortedIn lt (s + (e - m)) e d1 ∧ SortedIn lt e b d1 := by
  have h1 := h.sm; have h2 := h.me
  have asym : ∀ x y, lt x y = true → lt y x = false := fun x y hxy => by
    cases hc : lt y x with
    | false => rfl
    | true => have := hO.trans x y x hxy hc; rw [hO.irrefl] at this; cases this
  have gA1 : ∀ x, x < s → d1[x]! = d[x]! := fun x hx => h.out x (Or.inl hx)
  have gB1 : ∀ x, s ≤ x → x < s + (e - m) → d1[x]! = d[m + (x - s)]! := fun x hx hy => by
    have := h.left (x - s) (by omega)
    rwa [show s + (x - s) = x by omega] at this
  have gA2 : ∀ x, s + (e - m) ≤ x → x < e → d1[x]! = d[s + (x - (s + (e - m)))]! := fun x hx hy => by
    have := h.right (x - (s + (e - m))) (by omega)
    rwa [show s + (e - m) + (x - (s + (e - m))) = x by omega] at this
  have gB2 : ∀ x, e ≤ x → d1[x]! = d[x]! := fun x hx => h.out x (Or.inr hx)
  refine ⟨⟨h.sz, fun x hx => h.out x (by omega), fun x hx hy => ?_, fun x y x1 x2 y1 y2 => ?_, h.stab fun y y1 y2 x x1 x2 => c2 x y x1 x2 y1 y2⟩, ?_, ?_, ?_, ?_⟩
  · by_cases k1 : x < s
    · exact ⟨x, hx, by omega, gA1 x k1⟩
    · by_cases k2 : x < s + (e - m)
      · exact ⟨_, by omega, by omega, gB1 x (by omega) k2⟩
      · by_cases k3 : x < e
        · exact ⟨_, by omega, by omega, gA2 x (by omega) k3⟩
        · exact ⟨x, hx, hy, gB2 x (by omega)⟩
  · by_cases k1 : x < s
    · rw [gA1 x k1]
      by_cases k2 : y < e
      · rw [gA2 y y1 k2]
        exact hA _ _ x1 (by omega) (by omega)
      · rw [gB2 y (by omega)]
        exact c1 x y x1 k1 (by omega) y2
    · rw [gB1 x (by omega) x2]
      by_cases k2 : y < e
      · rw [gA2 y y1 k2]
        exact asym _ _ (c2 _ _ (by omega) (by omega) (by omega) (by omega))
      · rw [gB2 y (by omega)]
        exact hB _ _ (by omega) (by omega) y2
  · intro i j hi hij hj
    rw [gA1 i (by omega), gA1 j hj]; exact hA _ _ hi hij (by omega)
  · intro i j hi hij hj
    rw [gB1 i hi (by omega), gB1 j (by omega) hj]; exact hB _ _ (by omega) (by omega) (by omega)
  · intro i j hi hij hj
    rw [gA2 i hi (by omega), gA2 j (by omega) hj]; exact hA _ _ (by omega) (by omega) (by omega)
  · intro i j hi hij hj
    rw [gB2 i hi, gB2 j (by omega)]; exact hB _ _ (by omega) (by omega) hj

/-- One element at the left, put behind the lesser ones. -/
theorem merged_one_left {lt : α → α → Bool} (hO : SWO lt) {a b i : Nat} {d d1 : Array α} (hi : a + 1 ≤ i) (hib : i ≤ b) (hb : b ≤ d.size) (h : Rot d a (a + 1) i d1) (hB : SortedIn lt (a + 1) b d)
    (k1 : ∀ x, a + 1 ≤ x → x < i → lt d[x]! d[a]! = true) (k2 : ∀ x, i ≤ x → x < b → lt d[x]! d[a]! = false) : Merged lt a b d d1 := by
  have hA : SortedIn lt a (a + 1) d := fun x y h1 h2 h3 => by omega
  obtain ⟨C, s1, s2, s3, s4⟩ := cut_of_rot hO (a := a) (b := b) (Nat.le_refl a) hib hb h hA hB (fun x y h1 h2 => by omega) (fun x y h1 h2 h3 h4 => (show x = a by omega) ▸ k1 y h3 h4)
  refine C.glue (by omega) (by omega) (Merged.refl s2) (Merged.refl ?_)
  intro x y hx hxy hy
  by_cases c : i ≤ x
  · exact s4 x y c hxy hy
  · have ex : d1[x]! = d[a]! := by
      have := h.right 0 (by omega)
      rw [← show d[a + 0]! = d[a]! from rfl, ← this]; congr 1; omega
    rw [ex, h.out y (by omega)]
    exact k2 y (by omega) hy

/-- One element at the right, put ahead of the greater ones. -/
theorem merged_one_right {lt : α → α → Bool} (hO : SWO lt) {a m i : Nat} {d d1 : Array α} (hi : a ≤ i) (him : i ≤ m) (hb : m + 1 ≤ d.size) (h : Rot d i m (m + 1) d1) (hA : SortedIn lt a m d)
    (k1 : ∀ x, a ≤ x → x < i → lt d[m]! d[x]! = false) (k2 : ∀ x, i ≤ x → x < m → lt d[m]! d[x]! = true) : Merged lt a (m + 1) d d1 := by
  have hB : SortedIn lt m (m + 1) d := fun x y h1 h2 h3 => by omega
  obtain ⟨C, s1, s2, s3, s4⟩ := cut_of_rot hO (a := a) (b := m + 1) hi (Nat.le_refl _) hb h hA hB (fun x y h1 h2 h3 h4 => by omega) (fun x y h1 h2 h3 h4 => (show y = m by omega) ▸ k2 x h1 h2)
  refine C.glue (by omega) (by omega) (Merged.refl ?_) (Merged.refl s3)
  intro x y hx hxy hy
  by_cases c : y < i
  · exact s1 x y hx hxy c
  · have ey : d1[y]! = d[m]! := by
      have := h.left 0 (by omega)
      rw [← show d[m + 0]! = d[m]! from rfl, ← this]; congr 1; omega
    rw [ey, h.out x (by omega)]
    exact k1 x hx (by omega)

/-- symMerge's own cut: the binary search's end. -/
theorem cut_sym {lt : α → α → Bool} (hO : SWO lt) {a m b mid s s0 r0 : Nat} {d d1 : Array α} (ham : a < m) (hmb : m < b) (hb : b ≤ d.size) (hmid : mid = (a + b) / 2)
    (hs0 : (m > mid ∧ s0 = mid + m - b ∧ r0 = mid) ∨ (¬ m > mid ∧ s0 = a ∧ r0 = m)) (h0s : s0 ≤ s) (hsr : s ≤ r0)
    (hA : SortedIn lt a m d) (hB : SortedIn lt m b d)
    (lo : ∀ x, s0 ≤ x → x < s → lt d[mid + m - 1 - x]! d[x]! = false) (hi : ∀ x, s ≤ x → x < r0 → lt d[mid + m - 1 - x]! d[x]! = true) (h : Rot d s m (mid + m - s) d1) :
    Cutted lt a mid b d d1 ∧ SortedIn lt a s d1 ∧ SortedIn lt s mid d1 ∧ SortedIn lt mid (mid + m - s) d1 ∧ SortedIn lt (mid + m - s) b d1 := by
  have le_tr : ∀ x y z : α, lt y x = false → lt z y = false → lt z x = false := fun x y z h1 h2 => hO.ntrans z y x h2 h1
  have le_lt : ∀ x y z : α, lt y x = false → lt y z = true → lt x z = true := fun x y z h1 h2 => by
    cases hc : lt x z with
    | true => rfl
    | false => have := hO.ntrans y x z h1 hc; rw [h2] at this; cases this
  have lt_le : ∀ x y z : α, lt x y = true → lt z y = false → lt x z = true := fun x y z h1 h2 => by
    cases hc : lt x z with
    | true => rfl
    | false => have := hO.ntrans x z y hc h2; rw [h1] at this; cases this
  have sA : ∀ x y, a ≤ x → x ≤ y → y < m → lt d[y]! d[x]! = false := fun x y h1 h2 h3 => by
    rcases Nat.lt_or_eq_of_le h2 with h | h
    · exact hA x y h1 h h3
    · subst h; exact hO.irrefl _
  have sB : ∀ x y, m ≤ x → x ≤ y → y < b → lt d[y]! d[x]! = false := fun x y h1 h2 h3 => by
    rcases Nat.lt_or_eq_of_le h2 with h | h
    · exact hB x y h1 h h3
    · subst h; exact hO.irrefl _
  have key := cut_of_rot hO (a := a) (b := b) (s := s) (m := m) (e := mid + m - s) (by omega) (by omega) hb h hA hB ?_ ?_
  · rw [show s + (mid + m - s - m) = mid by omega] at key
    exact key
  · intro x y x1 x2 y1 y2
    have q : s0 < s := by omega
    have k := lo (s - 1) (by omega) (by omega)
    have t1 := sA x (s - 1) x1 (by omega) (by omega)
    have t2 := sB (mid + m - 1 - (s - 1)) y (by omega) (by omega) y2
    exact le_tr _ _ _ (le_tr _ _ _ t1 k) t2
  · intro x y x1 x2 y1 y2
    have k := hi s (Nat.le_refl _) (by omega)
    have t1 := sA s x (by omega) x1 x2
    have t2 := sB y (mid + m - 1 - s) y1 (by omega) (by omega)
    exact lt_le _ _ _ (le_lt _ _ _ t2 k) t1

/-! ### the insertion sort is stable -/
theorem stab_swp {lt : α → α → Bool} {d : Array α} {j : Nat} (h : lt d[j + 1]! d[j]! = true) (hj : j + 1 < d.size) : Stab lt d.toList (swp d (j + 1) j).toList := by
  have r : Rot d j (j + 1) (j + 2) (swp d (j + 1) j) := by
    refine ⟨swp_size _ _ _, by omega, by omega, by omega, fun x hx => swp_other _ _ _ _ (by omega) (by omega), fun t ht => ?_, fun t ht => ?_⟩
    · obtain rfl : t = 0 := by omega
      show (swp d (j + 1) j)[j]! = d[j + 1]!
      exact swp_right _ _ _ (by omega)
    · obtain rfl : t = 0 := by omega
      have e : j + (j + 2 - (j + 1)) + 0 = j + 1 := by omega
      rw [e]
      exact swp_left _ _ _ hj (by omega)
  refine r.stab fun y y1 y2 x x1 x2 => ?_
  obtain rfl : y = j + 1 := by omega
  obtain rfl : x = j := by omega
  exact h

theorem stab_insInner {lt : α → α → Bool} (a : Nat) : ∀ (j : Nat) (d : Array α), j < d.size → Stab lt d.toList (insInner lt a j d).toList
  | 0, d, _ => Stab.refl _ _
  | j + 1, d, h => by
    unfold insInner
    split
    · rename_i hc
      simp only [Bool.and_eq_true] at hc
      exact (stab_swp hc.2 h).trans (stab_insInner a j _ (by rw [swp_size]; omega))
    · exact Stab.refl _ _

theorem insInner_size {lt : α → α → Bool} (a : Nat) : ∀ (j : Nat) (d : Array α), (insInner lt a j d).size = d.size
  | 0, d => rfl
  | j + 1, d => by
    unfold insInner
    split
    · rw [insInner_size a j, swp_size]
    · rfl

theorem stab_insOuter {lt : α → α → Bool} (a b : Nat) : ∀ (n i : Nat) (d : Array α), b - i ≤ n → b ≤ d.size → Stab lt d.toList (insOuter lt a b i d).toList
  | n, i, d, hn, hb => by
    unfold insOuter
    split
    · rename_i hc
      cases n with
      | zero => omega
      | succ n => exact (stab_insInner a i d (by omega)).trans (stab_insOuter a b n (i + 1) _ (by omega) (by rw [insInner_size]; exact hb))
    · exact Stab.refl _ _

theorem stab_insertionSort {lt : α → α → Bool} (a b : Nat) (d : Array α) (hb : b ≤ d.size) : Stab lt d.toList (insertionSort lt d a b).toList :=
  stab_insOuter a b _ _ d (Nat.le_refl _) hb

/-! ### blocks -/
/-- From 'lo' on, up to n, each block of bs is in order. -/
def Blk (lt : α → α → Bool) (bs lo n : Nat) (d : Array α) : Prop := ∀ x y, lo ≤ x → x < y → y < n → x / bs = y / bs → lt d[y]! d[x]! = false

theorem blk_all {lt : α → α → Bool} {bs n : Nat} {d : Array α} (h : Blk lt bs 0 n d) (hb : n ≤ bs) : SortedIn lt 0 n d := fun x y h1 h2 h3 =>
  h x y h1 h2 h3 (by rw [Nat.div_eq_of_lt (by omega), Nat.div_eq_of_lt (by omega)])

theorem div_block {a bs x : Nat} (hbs : 0 < bs) (ha : bs ∣ a) (h1 : a ≤ x) (h2 : x < a + bs) : x / bs = a / bs := by
  obtain ⟨c, rfl⟩ := ha
  rw [Nat.mul_div_cancel_left c hbs]
  exact Nat.div_eq_of_lt_le (by rw [Nat.mul_comm]; exact h1) (by rw [Nat.succ_mul, Nat.mul_comm c bs]; exact h2)

theorem div_block_lt {a bs x y : Nat} (hbs : 0 < bs) (ha : bs ∣ a) (h1 : x < a) (h2 : a ≤ y) : x / bs ≠ y / bs := by
  obtain ⟨c, rfl⟩ := ha
  have := (Nat.div_lt_iff_lt_mul hbs).2 (by rw [Nat.mul_comm]; exact h1 : x < c * bs)
  have := (Nat.le_div_iff_mul_le hbs).2 (by rw [Nat.mul_comm]; exact h2 : c * bs ≤ y)
  omega

/-- A block more is in order: what lies ahead in blocks of bs up to a, then [a, b) with b ≤ a + bs. -/
theorem Blk.step {lt : α → α → Bool} {bs a b : Nat} {d d' : Array α} (hbs : 0 < bs) (ha : bs ∣ a) (_hb : b ≤ a + bs) (h : Blk lt bs 0 a d) (hs : SortedIn lt a b d') (ho : ∀ x, x < a → d'[x]! = d[x]!) : Blk lt bs 0 b d' := by
  intro x y h1 h2 h3 h4
  by_cases c : y < a
  · rw [ho x (by omega), ho y c]; exact h x y h1 h2 c h4
  · by_cases c2 : a ≤ x
    · exact hs x y c2 h2 h3
    · exact absurd h4 (div_block_lt hbs ha (by omega) (by omega))

theorem Blk.part {lt : α → α → Bool} {bs lo n a b : Nat} {d : Array α} (hbs : 0 < bs) (ha : bs ∣ a) (hl : lo ≤ a) (hb : b ≤ a + bs) (hn : b ≤ n) (h : Blk lt bs lo n d) : SortedIn lt a b d := fun x y h1 h2 h3 =>
  h x y (by omega) h2 (by omega) ((div_block hbs ha h1 (by omega)).trans (div_block (x := y) hbs ha (by omega) (by omega)).symm)

theorem Blk.out {lt : α → α → Bool} {bs lo lo' n : Nat} {d d' : Array α} (h : Blk lt bs lo n d) (hl : lo ≤ lo') (ho : ∀ x, lo' ≤ x → d'[x]! = d[x]!) : Blk lt bs lo' n d' := fun x y h1 h2 h3 h4 => by
  rw [ho x h1, ho y (by omega)]; exact h x y (by omega) h2 h3 h4

theorem Blk.one {lt : α → α → Bool} {bs n : Nat} {d : Array α} (a : Nat) (hbs : 0 < bs) (ha : 2 * bs ∣ a) (hn : n ≤ a + bs) (h1 : Blk lt (2 * bs) 0 a d) (h2 : Blk lt bs a n d) : Blk lt (2 * bs) 0 n d :=
  Blk.step (by omega) ha (by omega) h1 (h2.part hbs (Nat.dvd_trans (Nat.dvd_mul_left bs 2) ha) (Nat.le_refl _) hn (Nat.le_refl _)) (fun _ _ => rfl)

end Go.Proofs.Ytifeeneojlhffaa

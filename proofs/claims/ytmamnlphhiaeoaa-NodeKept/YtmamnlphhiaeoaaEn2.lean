/-
  The plain mathematics of package entry: how many bytes entries take, where a list is cut in two, a list as bytes and bytes as a list.
-/
import Derived.Test.YtmamnlphhiaeoaaEn
namespace Go.Proofs.Ytmamnlphhiaeoaa

/-- How many bytes an entry takes. -/
def szE (x : En) : Nat := 2 + x.1.size + x.2.size
/-- How many bytes entries take. -/
def szL : List En → Nat
  | [] => 0
  | x :: l => szE x + szL l

theorem szL_app (l m : List En) : szL (l ++ m) = szL l + szL m := by
  induction l with
  | nil => simp [szL]
  | cons x l ih => simp [szL, ih]; omega
theorem szL_snoc {l : List En} {i : Nat} (h : i < l.length) : szL (l.take (i + 1)) = szL (l.take i) + szE l[i]! := by
  rw [List.take_add_one, List.getElem?_eq_getElem h, szL_app, bang_get h]
  simp [szL]
theorem szL_take_le (l : List En) (i : Nat) : szL (l.take i) ≤ szL l := by
  have := szL_app (l.take i) (l.drop i)
  rw [List.take_append_drop] at this
  omega
theorem szL_bound {l : List En} {b : Nat} (h : ∀ x ∈ l, szE x ≤ b) : szL l ≤ l.length * b := by
  induction l with
  | nil => simp [szL]
  | cons x l ih =>
    have h1 := h x (List.mem_cons_self ..)
    have h2 := ih fun y hy => h y (List.mem_cons_of_mem _ hy)
    simp only [szL, List.length_cons, Nat.add_mul, Nat.one_mul]
    omega

/-- The first i + 1 take half at least. -/
def hfB (l : List En) (i : Nat) : Bool := decide (szL l ≤ 2 * szL (l.take (i + 1)))
/-- Where to cut a list in two. -/
def hfN (l : List En) : Nat := (((List.range (l.length - 1)).find? (hfB l)).map (· + 1)).getD (l.length - 1)

theorem find_first {p : Nat → Bool} {n i : Nat} (hi : i < n) (h1 : ∀ j, j < i → p j = false) (h2 : p i = true) : (List.range n).find? p = some i := by
  rw [List.find?_eq_some_iff_getElem]
  refine ⟨h2, i, by simpa using hi, by simp, fun j hj => ?_⟩
  simp [h1 j hj]
theorem find_none {p : Nat → Bool} {n : Nat} (h1 : ∀ j, j < n → p j = false) : (List.range n).find? p = none := by
  rw [List.find?_eq_none]
  intro j hj
  simp [h1 j (List.mem_range.1 hj)]

theorem hfN_here {l : List En} {i : Nat} (hi : i < l.length - 1) (h1 : ∀ j, j < i → hfB l j = false) (h2 : hfB l i = true) : hfN l = i + 1 := by
  unfold hfN; rw [find_first hi h1 h2]; rfl
theorem hfN_end {l : List En} (h1 : ∀ j, j < l.length - 1 → hfB l j = false) : hfN l = l.length - 1 := by
  unfold hfN; rw [find_none h1]; rfl
theorem hfN_short {l : List En} (h : l.length < 2) : hfN l = 0 := by
  rw [hfN_end fun j hj => by omega]; omega

/-- What is said of the place. -/
theorem hfN_is {l : List En} (h : 2 ≤ l.length) : 1 ≤ hfN l ∧ hfN l < l.length ∧ (szL l ≤ 2 * szL (l.take (hfN l)) ∨ hfN l = l.length - 1) ∧ (hfN l = 1 ∨ 2 * szL (l.take (hfN l - 1)) < szL l) := by
  by_cases c : ∃ i, i < l.length - 1 ∧ hfB l i = true
  · obtain ⟨i, hi⟩ := c
    have key : ∀ n, (∃ i, i ≤ n ∧ i < l.length - 1 ∧ hfB l i = true) → ∃ i, i < l.length - 1 ∧ hfB l i = true ∧ ∀ j, j < i → hfB l j = false := by
      intro n
      induction n with
      | zero => rintro ⟨i, h0, h1, h2⟩; exact ⟨i, h1, h2, fun j hj => by omega⟩
      | succ n ih =>
        rintro ⟨i, h0, h1, h2⟩
        by_cases d : ∃ j, j ≤ n ∧ j < l.length - 1 ∧ hfB l j = true
        · exact ih d
        · refine ⟨i, h1, h2, fun j hj => ?_⟩
          cases e : hfB l j
          · rfl
          · exact absurd ⟨j, by omega, by omega, e⟩ d
    obtain ⟨k, k1, k2, k3⟩ := key i ⟨i, Nat.le_refl _, hi⟩
    rw [hfN_here k1 k3 k2]
    refine ⟨by omega, by omega, Or.inl (by simpa [hfB] using k2), ?_⟩
    cases k with
    | zero => exact Or.inl rfl
    | succ k =>
      have := k3 k (by omega)
      right
      simp only [hfB, decide_eq_false_iff_not] at this
      rw [show k + 1 + 1 - 1 = k + 1 by omega]
      omega
  · have h1 : ∀ j, j < l.length - 1 → hfB l j = false := fun j hj => by
      cases e : hfB l j
      · rfl
      · exact absurd ⟨j, hj, e⟩ c
    rw [hfN_end h1]
    refine ⟨by omega, by omega, Or.inr rfl, ?_⟩
    rcases Nat.lt_or_ge 2 l.length with d | d
    · have := h1 (l.length - 3) (by omega)
      simp only [hfB, decide_eq_false_iff_not] at this
      right
      rw [show l.length - 1 - 1 = l.length - 3 + 1 by omega]
      omega
    · left; omega

/-- A text behind the byte that tells its length. -/
def txL (s : ByteArray) : List UInt8 := UInt8.ofNat s.size :: s.data.toList
/-- An entry's bytes. -/
def enE (x : En) : List UInt8 := txL x.1 ++ txL x.2
/-- A list's bytes. -/
def enL : List En → List UInt8
  | [] => []
  | x :: l => enE x ++ enL l

theorem enL_app (l m : List En) : enL (l ++ m) = enL l ++ enL m := by
  induction l with
  | nil => rfl
  | cons x l ih => simp [enL, ih]
theorem enL_snoc {l : List En} {i : Nat} (h : i < l.length) : enL (l.take (i + 1)) = enL (l.take i) ++ enE l[i]! := by
  rw [List.take_add_one, List.getElem?_eq_getElem h, enL_app, bang_get h]
  simp [enL]
theorem txL_length (s : ByteArray) : (txL s).length = 1 + s.size := by
  have := Lib.size_eq s
  simp [txL]; omega
theorem enE_length (x : En) : (enE x).length = szE x := by
  unfold enE szE
  rw [List.length_append, txL_length, txL_length]; omega
theorem enL_length (l : List En) : (enL l).length = szL l := by
  induction l with
  | nil => rfl
  | cons x l ih => simp only [enL, szL, List.length_append, ih, enE_length]

/-- The first entry of some bytes, and the rest. -/
def stp : List UInt8 → Option (En × List UInt8)
  | [] => none
  | c :: r => if r.length ≤ c.toNat then none else
    match r.drop c.toNat with
    | [] => none
    | d :: q => if q.length < d.toNat then none else some ((⟨(r.take c.toNat).toArray⟩, ⟨(q.take d.toNat).toArray⟩), q.drop d.toNat)

theorem tx_app {a r : List UInt8} {c : UInt8} (h : c.toNat = a.length) : txL ⟨a.toArray⟩ ++ r = c :: (a ++ r) := by
  have e : (⟨a.toArray⟩ : ByteArray).size = a.length := by simp [ByteArray.size]
  unfold txL
  rw [e, ← h]
  simp

theorem stp_inv {s r : List UInt8} {x : En} (h : stp s = some (x, r)) : s = enE x ++ r ∧ x.1.size ≤ 255 ∧ x.2.size ≤ 255 := by
  cases s with
  | nil => simp [stp] at h
  | cons c t =>
    simp only [stp] at h
    by_cases h1 : t.length ≤ c.toNat
    · rw [if_pos h1] at h; cases h
    · rw [if_neg h1] at h
      cases hd : t.drop c.toNat with
      | nil => rw [hd] at h; cases h
      | cons d q =>
        rw [hd] at h
        simp only at h
        by_cases h2 : q.length < d.toNat
        · rw [if_pos h2] at h; cases h
        · rw [if_neg h2] at h
          cases h
          have l1 : c.toNat = (t.take c.toNat).length := by simp; omega
          have l2 : d.toNat = (q.take d.toNat).length := by simp; omega
          have c1 := UInt8.toNat_lt c
          have d1 := UInt8.toNat_lt d
          have e1 : (⟨(t.take c.toNat).toArray⟩ : ByteArray).size = c.toNat := by simp [ByteArray.size]; omega
          have e2 : (⟨(q.take d.toNat).toArray⟩ : ByteArray).size = d.toNat := by simp [ByteArray.size]; omega
          refine ⟨?_, by simp only [e1]; omega, by simp only [e2]; omega⟩
          unfold enE
          rw [List.append_assoc, tx_app l2, List.take_append_drop, ← hd, tx_app l1, List.take_append_drop]

theorem stp_tx (c d : UInt8) (a b r : List UInt8) (h1 : c.toNat = a.length) (h2 : d.toNat = b.length) : stp (c :: (a ++ d :: (b ++ r))) = some ((⟨a.toArray⟩, ⟨b.toArray⟩), r) := by
  simp only [stp]
  have e1 : ¬ (a ++ d :: (b ++ r)).length ≤ c.toNat := by rw [List.length_append, List.length_cons]; omega
  have e2 : (a ++ d :: (b ++ r)).drop c.toNat = d :: (b ++ r) := by rw [h1]; simp
  have e3 : (a ++ d :: (b ++ r)).take c.toNat = a := by rw [h1]; simp
  have e4 : ¬ (b ++ r).length < d.toNat := by rw [List.length_append]; omega
  have e5 : (b ++ r).drop d.toNat = r := by rw [h2]; simp
  have e6 : (b ++ r).take d.toNat = b := by rw [h2]; simp
  rw [if_neg e1, e2]
  simp only
  rw [if_neg e4, e3, e5, e6]

theorem ofNat_size {n : Nat} (h : n ≤ 255) : (UInt8.ofNat n).toNat = n := by
  simp; omega

theorem stp_enE {x : En} (r : List UInt8) (h1 : x.1.size ≤ 255) (h2 : x.2.size ≤ 255) : stp (enE x ++ r) = some (x, r) := by
  have s1 := Lib.size_eq x.1
  have s2 := Lib.size_eq x.2
  have := stp_tx (UInt8.ofNat x.1.size) (UInt8.ofNat x.2.size) x.1.data.toList x.2.data.toList r (by rw [ofNat_size h1]; exact s1) (by rw [ofNat_size h2]; exact s2)
  have e : enE x ++ r = UInt8.ofNat x.1.size :: (x.1.data.toList ++ UInt8.ofNat x.2.size :: (x.2.data.toList ++ r)) := by simp [enE, txL]
  rw [e, this]

theorem stp_less {s r : List UInt8} {x : En} (h : stp s = some (x, r)) : r.length < s.length := by
  obtain ⟨e, _, _⟩ := stp_inv h
  rw [e, List.length_append, enE_length]
  unfold szE
  omega

/-- The list of some bytes, right or not. -/
def dcF : Nat → List UInt8 → Option (List En)
  | 0, s => if s.isEmpty then some [] else none
  | n + 1, s => if s.isEmpty then some [] else
    match stp s with
    | none => none
    | some (x, r) => (dcF n r).map (x :: ·)
def dcL (s : List UInt8) : Option (List En) := dcF s.length s

theorem dcF_any : ∀ (n m : Nat) (s : List UInt8), s.length ≤ n → s.length ≤ m → dcF n s = dcF m s
  | 0, m, s, h, _ => by
    obtain rfl : s = [] := List.length_eq_zero_iff.1 (by omega)
    cases m <;> rfl
  | n + 1, 0, s, _, h => by
    obtain rfl : s = [] := List.length_eq_zero_iff.1 (by omega)
    rfl
  | n + 1, m + 1, s, h1, h2 => by
    unfold dcF
    cases hs : s.isEmpty
    · cases ht : stp s with
      | none => rfl
      | some p =>
        obtain ⟨x, r⟩ := p
        have := stp_less ht
        simp only
        rw [dcF_any n m r (by omega) (by omega)]
    · rfl

theorem dcL_nil : dcL [] = some [] := rfl
theorem dcL_none {s : List UInt8} (hs : s ≠ []) (h : stp s = none) : dcL s = none := by
  cases s with
  | nil => exact absurd rfl hs
  | cons c t => unfold dcL; simp only [List.length_cons, dcF, h]; rfl
theorem dcL_some {s r : List UInt8} {x : En} (h : stp s = some (x, r)) : dcL s = (dcL r).map (x :: ·) := by
  have hl := stp_less h
  cases s with
  | nil => simp [stp] at h
  | cons c t =>
    unfold dcL
    simp only [List.length_cons, dcF, h]
    rw [dcF_any t.length r.length r (by simpa using Nat.lt_succ_iff.1 hl) (Nat.le_refl _)]
    rfl

theorem dcL_enL {l : List En} (h : ∀ x ∈ l, x.1.size ≤ 255 ∧ x.2.size ≤ 255) : dcL (enL l) = some l := by
  induction l with
  | nil => rfl
  | cons x l ih =>
    have h1 := h x (List.mem_cons_self ..)
    unfold enL
    rw [dcL_some (stp_enE (enL l) h1.1 h1.2), ih fun y hy => h y (List.mem_cons_of_mem _ hy)]
    rfl

theorem dcL_inv : ∀ (n : Nat) (s : List UInt8) (l : List En), s.length ≤ n → dcL s = some l → enL l = s
  | n, [], l, _, h => by rw [dcL_nil] at h; cases h; rfl
  | 0, c :: t, l, hn, _ => by simp at hn
  | n + 1, c :: t, l, hn, h => by
    cases hs : stp (c :: t) with
    | none => rw [dcL_none (by simp) hs] at h; cases h
    | some p =>
      obtain ⟨x, r⟩ := p
      have hl := stp_less hs
      rw [dcL_some hs] at h
      cases hd : dcL r with
      | none => rw [hd] at h; cases h
      | some m =>
        rw [hd] at h
        cases h
        rw [enL, dcL_inv n r m (by simp at hn hl ⊢; omega) hd, ← (stp_inv hs).1]

/-- What Decode answers: the list, and whether there is one. -/
def deL (s : List UInt8) : List En := match dcL s with
  | none => []
  | some l => if rgB l = true then l else []
def deB (s : List UInt8) : Bool := match dcL s with
  | none => false
  | some l => rgB l

theorem deL_right {s : List UInt8} (h : deB s = true) : Rg (deL s) ∧ enL (deL s) = s := by
  unfold deB at h
  unfold deL
  cases hd : dcL s with
  | none => rw [hd] at h; cases h
  | some l =>
    rw [hd] at h
    simp only at h ⊢
    rw [if_pos h]
    exact ⟨rg_of h, dcL_inv _ s l (Nat.le_refl _) hd⟩
theorem deL_no {s : List UInt8} (h : deB s = false) : deL s = [] := by
  unfold deB at h
  unfold deL
  cases hd : dcL s with
  | none => rfl
  | some l =>
    rw [hd] at h
    simp only at h ⊢
    rw [h]; rfl
theorem deL_enL {l : List En} (h : Rg l) : deL (enL l) = l ∧ deB (enL l) = true := by
  have hd : dcL (enL l) = some l := dcL_enL fun x hx => by
    have := mayB_iff.1 (h.may x hx); omega
  unfold deL deB
  rw [hd]
  simp only [rgB_of h]
  exact ⟨rfl, trivial⟩

/-- What Encode answers. -/
def ecS (l : List En) : ByteArray := ⟨(if rgB l = true then enL l else []).toArray⟩
def ecE (l : List En) : Int := if rgB l = true then 0 else 1

end Go.Proofs.Ytmamnlphhiaeoaa

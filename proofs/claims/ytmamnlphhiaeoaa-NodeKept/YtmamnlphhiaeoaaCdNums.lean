/-
  The plain mathematics of package codec: numbers as bytes, the greatest first.
-/
namespace Go.Proofs.Ytmamnlphhiaeoaa

/-- The number that stands in some bytes, the greatest first. -/
def beNat (l : List UInt8) : Nat := l.foldl (fun a c => a * 256 + c.toNat) 0

/-- A number in k bytes, the greatest first (what does not fit is cut off). -/
def beBytes : Nat → Nat → List UInt8
  | 0, _ => []
  | k + 1, n => beBytes k (n / 256) ++ [UInt8.ofNat (n % 256)]

theorem beNat_nil : beNat [] = 0 := rfl
theorem beNat_snoc (l : List UInt8) (c : UInt8) : beNat (l ++ [c]) = beNat l * 256 + c.toNat := by simp [beNat]
theorem beBytes_length (k : Nat) : ∀ n, (beBytes k n).length = k := by
  induction k with
  | zero => intro n; rfl
  | succ k ih => intro n; simp [beBytes, ih]

theorem snoc_of {α : Type} (l : List α) (k : Nat) (h : l.length = k + 1) : ∃ a c, l = a ++ [c] ∧ a.length = k := by
  have hne : l ≠ [] := by intro e; subst e; simp at h
  refine ⟨l.dropLast, l.getLast hne, (List.dropLast_concat_getLast hne).symm, by simp [h]⟩

theorem beNat_lt_len (k : Nat) : ∀ l : List UInt8, l.length = k → beNat l < 256 ^ k := by
  induction k with
  | zero => intro l h; rw [List.length_eq_zero_iff.1 h]; decide
  | succ k ih =>
    intro l h
    obtain ⟨a, c, rfl, ha⟩ := snoc_of l k h
    have h1 := ih a ha
    have h2 : c.toNat < 256 := UInt8.toNat_lt c
    rw [beNat_snoc, Nat.pow_succ]
    omega
theorem beNat_lt (l : List UInt8) : beNat l < 256 ^ l.length := beNat_lt_len _ l rfl

theorem beNat_bytes (k : Nat) : ∀ n, n < 256 ^ k → beNat (beBytes k n) = n := by
  induction k with
  | zero => intro n h; simp at h; subst h; rfl
  | succ k ih =>
    intro n h
    rw [beBytes, beNat_snoc, ih (n / 256) (by rw [Nat.pow_succ] at h; omega)]
    have : (UInt8.ofNat (n % 256)).toNat = n % 256 := by simp
    omega

theorem beBytes_nat (k : Nat) : ∀ l : List UInt8, l.length = k → beBytes k (beNat l) = l := by
  induction k with
  | zero => intro l h; rw [List.length_eq_zero_iff.1 h]; rfl
  | succ k ih =>
    intro l h
    obtain ⟨a, c, rfl, ha⟩ := snoc_of l k h
    have h2 : c.toNat < 256 := UInt8.toNat_lt c
    rw [beNat_snoc, beBytes]
    have e1 : (beNat a * 256 + c.toNat) / 256 = beNat a := by omega
    have e2 : (beNat a * 256 + c.toNat) % 256 = c.toNat := by omega
    rw [e1, e2, ih a ha]
    simp

theorem beNat_take (l : List UInt8) (k : Nat) (h : k < l.length) : beNat (l.take (k + 1)) = beNat (l.take k) * 256 + (l[k]).toNat := by
  rw [List.take_succ_eq_append_getElem h, beNat_snoc]

theorem beNat_take_lt (l : List UInt8) (k : Nat) (h : k < 4) : beNat (l.take k) < 16777216 := by
  have h1 := beNat_lt (l.take k)
  have h2 : (l.take k).length ≤ 3 := by simp; omega
  have h3 : 256 ^ (l.take k).length ≤ 256 ^ 3 := Nat.pow_le_pow_right (by omega) h2
  have h4 : (256 : Nat) ^ 3 = 16777216 := by decide
  omega

end Go.Proofs.Ytmamnlphhiaeoaa

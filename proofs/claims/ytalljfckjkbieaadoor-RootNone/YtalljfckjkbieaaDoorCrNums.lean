/-
  Plain laws of the check: one bit's step on natural numbers, four and eight of them, that they are linear and can be undone; no program in it.
-/
import Derived.Laws.BitsAllLaws
namespace Go.Proofs.YtalljfckjkbieaaDoor

/-- One of a byte's eight steps. -/
def bit1 (c : Nat) : Nat := if c % 2 = 1 then c / 2 ^^^ 3988292384 else c / 2
def bit4 (c : Nat) : Nat := bit1 (bit1 (bit1 (bit1 c)))
/-- All eight. -/
def bit8 (c : Nat) : Nat := bit4 (bit4 c)
/-- The check with one byte more. -/
def stepN (c b : Nat) : Nat := bit8 (c ^^^ b)
/-- The check with all these bytes more. -/
def foldN (c : Nat) (l : List UInt8) : Nat := l.foldl (fun c b => stepN c b.toNat) c
/-- The check of bytes. -/
def sumN (l : List UInt8) : Nat := foldN 4294967295 l ^^^ 4294967295

/-- The table of half a byte's steps. -/
def tab : List Int := [0, 498536548, 997073096, 651767980, 1994146192, 1802195444, 1303535960, 1342533948, 3988292384, 4027552580, 3604390888, 3412177804, 2607071920, 2262029012, 2685067896, 3183342108]

theorem xor_left_comm (x y z : Nat) : x ^^^ (y ^^^ z) = y ^^^ (x ^^^ z) := by
  rw [← Nat.xor_assoc, Nat.xor_comm x y, Nat.xor_assoc]

theorem xor_back (x y : Nat) : x ^^^ (x ^^^ y) = y := by
  rw [← Nat.xor_assoc, Nat.xor_self, Nat.zero_xor]

theorem eq_of_xor_zero {x y : Nat} (h : x ^^^ y = 0) : x = y := by
  have := xor_back x y
  rw [h, Nat.xor_zero] at this
  exact this

theorem xor_inj_left {x y z : Nat} (h : x ^^^ y = x ^^^ z) : y = z := by
  have := congrArg (x ^^^ ·) h
  simpa [xor_back] using this

theorem xor_inj_right {x y z : Nat} (h : y ^^^ x = z ^^^ x) : y = z := by
  rw [Nat.xor_comm y, Nat.xor_comm z] at h
  exact xor_inj_left h

theorem xor_lt32 {x y : Nat} (hx : x < 4294967296) (hy : y < 4294967296) : x ^^^ y < 4294967296 := Nat.xor_lt_two_pow (n := 32) hx hy

theorem i64_xor32 (a b : Nat) (ha : a < 4294967296) (hb : b < 4294967296) : bits .xor .i64 (a : Int) (b : Int) = ((a ^^^ b : Nat) : Int) := by
  have hx := xor_lt32 ha hb
  show IntKind.i64.wrap ((BitVec.ofInt 64 (a : Int) ^^^ BitVec.ofInt 64 (b : Int)).toNat : Int) = _
  rw [BitVec.toNat_xor, ofInt_u64 a (by omega), ofInt_u64 b (by omega)]
  simp [IntKind.wrap, IntKind.bits, IntKind.signed]
  omega

theorem bit1_xor (x y : Nat) : bit1 (x ^^^ y) = bit1 x ^^^ bit1 y := by
  have hm := @Nat.xor_mod_two_eq_one x y
  have hd := @Nat.xor_div_two x y
  unfold bit1
  rw [hd]
  by_cases h1 : x % 2 = 1 <;> by_cases h2 : y % 2 = 1
  · rw [if_neg (by rw [hm]; simp [h1, h2]), if_pos h1, if_pos h2]
    rw [Nat.xor_assoc, xor_left_comm 3988292384, Nat.xor_self, Nat.xor_zero]
  · rw [if_pos (by rw [hm]; simp [h1, h2]), if_pos h1, if_neg h2]
    rw [Nat.xor_assoc, Nat.xor_assoc, Nat.xor_comm (y / 2)]
  · rw [if_pos (by rw [hm]; simp [h1, h2]), if_neg h1, if_pos h2]
    rw [Nat.xor_assoc]
  · rw [if_neg (by rw [hm]; simp [h1, h2]), if_neg h1, if_neg h2]

theorem bit1_even (x : Nat) : bit1 (2 * x) = x := by
  unfold bit1
  rw [if_neg (by omega)]
  omega

theorem bit1_lt {c : Nat} (h : c < 4294967296) : bit1 c < 4294967296 := by
  unfold bit1
  split
  · exact xor_lt32 (by omega) (by decide)
  · omega

theorem bit1_zero {c : Nat} (h : c < 4294967296) (h0 : bit1 c = 0) : c = 0 := by
  unfold bit1 at h0
  split at h0
  · have := eq_of_xor_zero h0
    omega
  · omega

theorem bit4_xor (x y : Nat) : bit4 (x ^^^ y) = bit4 x ^^^ bit4 y := by
  unfold bit4
  rw [bit1_xor, bit1_xor, bit1_xor, bit1_xor]

theorem bit4_even (x : Nat) : bit4 (16 * x) = x := by
  unfold bit4
  rw [show 16 * x = 2 * (2 * (2 * (2 * x))) by omega, bit1_even, bit1_even, bit1_even, bit1_even]

theorem bit4_lt {c : Nat} (h : c < 4294967296) : bit4 c < 4294967296 := bit1_lt (bit1_lt (bit1_lt (bit1_lt h)))

theorem bit4_zero {c : Nat} (h : c < 4294967296) (h0 : bit4 c = 0) : c = 0 :=
  bit1_zero h (bit1_zero (bit1_lt h) (bit1_zero (bit1_lt (bit1_lt h)) (bit1_zero (bit1_lt (bit1_lt (bit1_lt h))) h0)))

theorem bit8_xor (x y : Nat) : bit8 (x ^^^ y) = bit8 x ^^^ bit8 y := by
  unfold bit8
  rw [bit4_xor, bit4_xor]

theorem bit8_even (x : Nat) : bit8 (256 * x) = x := by
  unfold bit8
  rw [show 256 * x = 16 * (16 * x) by omega, bit4_even, bit4_even]

theorem bit8_lt {c : Nat} (h : c < 4294967296) : bit8 c < 4294967296 := bit4_lt (bit4_lt h)

theorem bit8_zero {c : Nat} (h : c < 4294967296) (h0 : bit8 c = 0) : c = 0 := bit4_zero h (bit4_zero (bit4_lt h) h0)

theorem bit8_inj {c d : Nat} (hc : c < 4294967296) (hd : d < 4294967296) (h : bit8 c = bit8 d) : c = d := by
  apply eq_of_xor_zero
  apply bit8_zero (xor_lt32 hc hd)
  rw [bit8_xor, h, Nat.xor_self]

theorem add_xor {i b : Nat} (h : b < 2 ^ i) (a : Nat) : 2 ^ i * a + b = 2 ^ i * a ^^^ b := by
  apply Nat.eq_of_testBit_eq
  intro j
  rw [Nat.testBit_two_pow_mul_add _ h, Nat.testBit_xor, Nat.testBit_two_pow_mul]
  by_cases hj : j < i
  · simp [hj, Nat.not_le.2 hj]
  · have hb : b.testBit j = false := Nat.testBit_lt_two_pow (Nat.lt_of_lt_of_le h (Nat.pow_le_pow_right (by decide) (by omega)))
    simp [hj, hb, Nat.le_of_not_lt hj]

/-- A number in two: what is above its last four bits, and these. -/
theorem nib (c : Nat) : c = (16 * (c / 16)) ^^^ (c % 16) := by
  have h : 2 ^ 4 * (c / 16) + c % 16 = 2 ^ 4 * (c / 16) ^^^ c % 16 := add_xor (Nat.mod_lt _ (by decide)) _
  have h2 := Nat.div_add_mod c 16
  simp only [Nat.reducePow] at h
  omega

theorem tab_bit4 : ∀ n, n < 16 → tab.getD n 0 = ((bit4 n : Nat) : Int) := by decide

/-- HALF A BYTE's STEPS BY THE TABLE. -/
theorem half_bit4 (c : Nat) : c / 16 ^^^ bit4 (c % 16) = bit4 c := by
  conv => rhs; rw [nib c, bit4_xor, bit4_even]

theorem stepN_lt {c b : Nat} (hc : c < 4294967296) (hb : b < 256) : stepN c b < 4294967296 := bit8_lt (xor_lt32 hc (by omega))

theorem stepN_inj {c d b : Nat} (hc : c < 4294967296) (hd : d < 4294967296) (hb : b < 256) : stepN c b = stepN d b ↔ c = d := by
  constructor
  · intro h
    exact xor_inj_right (bit8_inj (xor_lt32 hc (by omega)) (xor_lt32 hd (by omega)) h)
  · rintro rfl
    rfl

theorem stepN_inj_byte {c a b : Nat} (hc : c < 4294967296) (ha : a < 256) (hb : b < 256) : stepN c a = stepN c b ↔ a = b := by
  constructor
  · intro h
    exact xor_inj_left (bit8_inj (xor_lt32 hc (by omega)) (xor_lt32 hc (by omega)) h)
  · rintro rfl
    rfl

theorem foldN_nil (c : Nat) : foldN c [] = c := rfl
theorem foldN_cons (c : Nat) (b : UInt8) (l : List UInt8) : foldN c (b :: l) = foldN (stepN c b.toNat) l := rfl
theorem foldN_app (c : Nat) (l m : List UInt8) : foldN c (l ++ m) = foldN (foldN c l) m := List.foldl_append

theorem foldN_lt {c : Nat} (hc : c < 4294967296) (l : List UInt8) : foldN c l < 4294967296 := by
  induction l generalizing c with
  | nil => exact hc
  | cons b l ih => exact ih (stepN_lt hc b.toNat_lt)

theorem foldN_inj {c d : Nat} (hc : c < 4294967296) (hd : d < 4294967296) (l : List UInt8) (h : foldN c l = foldN d l) : c = d := by
  induction l generalizing c d with
  | nil => exact h
  | cons b l ih => exact (stepN_inj hc hd b.toNat_lt).1 (ih (stepN_lt hc b.toNat_lt) (stepN_lt hd b.toNat_lt) h)

theorem sumN_lt (l : List UInt8) : sumN l < 4294967296 := xor_lt32 (foldN_lt (by decide) l) (by decide)

theorem sumN_inj {l m : List UInt8} (h : sumN l = sumN m) : foldN 4294967295 l = foldN 4294967295 m := xor_inj_right h

theorem sumN_one (l : List UInt8) (b : UInt8) : sumN (l ++ [b]) = stepN (sumN l ^^^ 4294967295) b.toNat ^^^ 4294967295 := by
  unfold sumN
  rw [foldN_app, Nat.xor_assoc, Nat.xor_self, Nat.xor_zero, foldN_cons, foldN_nil]

/-- What a change of four bytes in a row makes of the check behind them. -/
theorem four (C x0 x1 x2 x3 a b c d : Nat) :
    stepN (stepN (stepN (stepN C (x0 ^^^ a)) (x1 ^^^ b)) (x2 ^^^ c)) (x3 ^^^ d)
      = stepN (stepN (stepN (stepN C x0) x1) x2) x3 ^^^ bit8 (bit8 (bit8 (bit8 (a ^^^ 256 * b ^^^ 65536 * c ^^^ 16777216 * d)))) := by
  have e1 : bit8 (a ^^^ 256 * b ^^^ 65536 * c ^^^ 16777216 * d) = bit8 a ^^^ b ^^^ 256 * c ^^^ 65536 * d := by
    rw [bit8_xor, bit8_xor, bit8_xor, bit8_even, show 65536 * c = 256 * (256 * c) by omega, bit8_even, show 16777216 * d = 256 * (65536 * d) by omega, bit8_even]
  have e2 : bit8 (bit8 a ^^^ b ^^^ 256 * c ^^^ 65536 * d) = bit8 (bit8 a ^^^ b) ^^^ c ^^^ 256 * d := by
    rw [bit8_xor, bit8_xor, bit8_even, show 65536 * d = 256 * (256 * d) by omega, bit8_even]
  have e3 : bit8 (bit8 (bit8 a ^^^ b) ^^^ c ^^^ 256 * d) = bit8 (bit8 (bit8 a ^^^ b) ^^^ c) ^^^ d := by
    rw [bit8_xor, bit8_even]
  rw [e1, e2, e3]
  unfold stepN
  have s (C x a D : Nat) : bit8 ((C ^^^ D) ^^^ (x ^^^ a)) = bit8 (C ^^^ x) ^^^ bit8 (D ^^^ a) := by
    rw [← bit8_xor]
    congr 1
    rw [Nat.xor_assoc, Nat.xor_assoc, xor_left_comm D]
  have s0 : bit8 (C ^^^ (x0 ^^^ a)) = bit8 (C ^^^ x0) ^^^ bit8 a := by rw [← Nat.xor_assoc, bit8_xor]
  rw [s0, s, s, s]

theorem four_zero {a b c d : Nat} (ha : a < 256) (hb : b < 256) (hc : c < 256) (h : a ^^^ 256 * b ^^^ 65536 * c ^^^ 16777216 * d = 0) : a = 0 ∧ b = 0 ∧ c = 0 ∧ d = 0 := by
  have h1 : 2 ^ 8 * b + a = 2 ^ 8 * b ^^^ a := add_xor ha b
  have h2 : 2 ^ 16 * c + (2 ^ 8 * b + a) = 2 ^ 16 * c ^^^ (2 ^ 8 * b + a) := add_xor (by omega) c
  have h3 : 2 ^ 24 * d + (2 ^ 16 * c + (2 ^ 8 * b + a)) = 2 ^ 24 * d ^^^ (2 ^ 16 * c + (2 ^ 8 * b + a)) := add_xor (by omega) d
  simp only [Nat.reducePow] at h1 h2 h3
  rw [Nat.xor_comm a, ← h1, Nat.xor_comm (256 * b + a), ← h2, Nat.xor_comm, ← h3] at h
  omega

/-- FOUR BYTES IN A ROW ARE OTHERS: SO IS THE SUM. -/
theorem harm (p q : List UInt8) (x0 x1 x2 x3 a b c d : UInt8) (h : ¬(a = 0 ∧ b = 0 ∧ c = 0 ∧ d = 0)) :
    sumN (p ++ (x0 ^^^ a) :: (x1 ^^^ b) :: (x2 ^^^ c) :: (x3 ^^^ d) :: q) ≠ sumN (p ++ x0 :: x1 :: x2 :: x3 :: q) := by
  intro e
  have e := sumN_inj e
  simp only [foldN_app, foldN_cons, UInt8.toNat_xor] at e
  have hC : foldN 4294967295 p < 4294967296 := foldN_lt (by decide) p
  generalize foldN 4294967295 p = C at *
  have l4 (y0 y1 y2 y3 : Nat) (h0 : y0 < 256) (h1 : y1 < 256) (h2 : y2 < 256) (h3 : y3 < 256) : stepN (stepN (stepN (stepN C y0) y1) y2) y3 < 4294967296 :=
    stepN_lt (stepN_lt (stepN_lt (stepN_lt hC h0) h1) h2) h3
  have lx (x y : UInt8) : x.toNat ^^^ y.toNat < 256 := by
    rw [← UInt8.toNat_xor]
    exact UInt8.toNat_lt _
  have e := foldN_inj (l4 _ _ _ _ (lx _ _) (lx _ _) (lx _ _) (lx _ _)) (l4 _ _ _ _ x0.toNat_lt x1.toNat_lt x2.toNat_lt x3.toNat_lt) q e
  rw [four] at e
  have e0 := xor_inj_left (e.trans (Nat.xor_zero _).symm)
  have ha := a.toNat_lt
  have hb := b.toNat_lt
  have hc := c.toNat_lt
  have hd := d.toNat_lt
  have hz : a.toNat ^^^ 256 * b.toNat ^^^ 65536 * c.toNat ^^^ 16777216 * d.toNat < 4294967296 := xor_lt32 (xor_lt32 (xor_lt32 (by omega) (by omega)) (by omega)) (by omega)
  have z := bit8_zero hz (bit8_zero (bit8_lt hz) (bit8_zero (bit8_lt (bit8_lt hz)) (bit8_zero (bit8_lt (bit8_lt (bit8_lt hz))) e0)))
  obtain ⟨z1, z2, z3, z4⟩ := four_zero ha hb hc z
  exact h ⟨UInt8.toNat_inj.1 z1, UInt8.toNat_inj.1 z2, UInt8.toNat_inj.1 z3, UInt8.toNat_inj.1 z4⟩

end Go.Proofs.YtalljfckjkbieaaDoor

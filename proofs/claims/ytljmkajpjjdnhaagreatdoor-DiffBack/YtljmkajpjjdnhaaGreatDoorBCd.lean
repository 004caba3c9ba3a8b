/-
  Texts of elder layers, joined: CdNums, CdSmall, CdMid, CdPut, CdJoin, CdLaws.
-/
import Derived.Test.YtljmkajpjjdnhaaGreatDoorProg
import Derived.WalkKit
import Derived.WalkSpells
import Derived.WalkLawsBesides
import Derived.Test.YtljmkajpjjdnhaaGreatDoorShelf
namespace Go.Proofs.YtljmkajpjjdnhaaGreatDoor

/-! CdNums -/
section
/-- The number that stands in some bytes, the greatest first. -/
def beNat (l : List UInt8) : Nat := l.foldl (fun a c => a * 256 + c.toNat) 0

/-- A number in k bytes, the greatest first (what does not fit is cut off). -/
def beBytes : Nat → Nat → List UInt8
  | 0, _ => []
  | k + 1, n => beBytes k (n / 256) ++ [UInt8.ofNat (n % 256)]

theorem beNat_nil : beNat [] = 0 := rfl
theorem beNat_snoc (l : List UInt8) (c : UInt8) : beNat (l ++ [c]) = beNat l * 256 + c.toNat := by simp [beNat]
theorem beBytes_length (k : Nat) : ∀ n, (beBytes k n).length = k := by
  induction k with
  | zero => intro n; rfl
  | succ k ih => intro n; simp [beBytes, ih]

theorem snoc_of {α : Type} (l : List α) (k : Nat) (h : l.length = k + 1) : ∃ a c, l = a ++ [c] ∧ a.length = k := by
  have hne : l ≠ [] := by intro e; subst e; simp at h
  refine ⟨l.dropLast, l.getLast hne, (List.dropLast_concat_getLast hne).symm, by simp [h]⟩

theorem beNat_lt_len (k : Nat) : ∀ l : List UInt8, l.length = k → beNat l < 256 ^ k := by
  induction k with
  | zero => intro l h; rw [List.length_eq_zero_iff.1 h]; decide
  | succ k ih =>
    intro l h
    obtain ⟨a, c, rfl, ha⟩ := snoc_of l k h
    have h1 := ih a ha
    have h2 : c.toNat < 256 := UInt8.toNat_lt c
    rw [beNat_snoc, Nat.pow_succ]
    omega
theorem beNat_lt (l : List UInt8) : beNat l < 256 ^ l.length := beNat_lt_len _ l rfl

theorem beNat_bytes (k : Nat) : ∀ n, n < 256 ^ k → beNat (beBytes k n) = n := by
  induction k with
  | zero => intro n h; simp at h; subst h; rfl
  | succ k ih =>
    intro n h
    rw [beBytes, beNat_snoc, ih (n / 256) (by rw [Nat.pow_succ] at h; omega)]
    have : (UInt8.ofNat (n % 256)).toNat = n % 256 := by simp
    omega

theorem beBytes_nat (k : Nat) : ∀ l : List UInt8, l.length = k → beBytes k (beNat l) = l := by
  induction k with
  | zero => intro l h; rw [List.length_eq_zero_iff.1 h]; rfl
  | succ k ih =>
    intro l h
    obtain ⟨a, c, rfl, ha⟩ := snoc_of l k h
    have h2 : c.toNat < 256 := UInt8.toNat_lt c
    rw [beNat_snoc, beBytes]
    have e1 : (beNat a * 256 + c.toNat) / 256 = beNat a := by omega
    have e2 : (beNat a * 256 + c.toNat) % 256 = c.toNat := by omega
    rw [e1, e2, ih a ha]
    simp

theorem beNat_take (l : List UInt8) (k : Nat) (h : k < l.length) : beNat (l.take (k + 1)) = beNat (l.take k) * 256 + (l[k]).toNat := by
  rw [List.take_succ_eq_append_getElem h, beNat_snoc]

theorem beNat_take_lt (l : List UInt8) (k : Nat) (h : k < 4) : beNat (l.take k) < 16777216 := by
  have h1 := beNat_lt (l.take k)
  have h2 : (l.take k).length ≤ 3 := by simp; omega
  have h3 : 256 ^ (l.take k).length ≤ 256 ^ 3 := Nat.pow_le_pow_right (by omega) h2
  have h4 : (256 : Nat) ^ 3 = 16777216 := by decide
  omega
end

/-! CdSmall -/
section
open Go.RowKit

/-- A size that the codec knows. -/
def szB (n : Int) : Bool := decide (n = 1 ∨ n = 2 ∨ n = 4)

/-- Block b is a Reader: what is left of its text, and its error. -/
structure Rd (b : Nat) (s : ByteArray) (e : Int) (w : World) : Prop where
  blk : w.heap[b]? = some (.cells #[.string s, .int .i64 e] 202 (0, 0))
  sz : s.size ≤ maxLen

/-- Nothing has turned but block b; no block came. -/
structure Only (b : Nat) (w w' : World) : Prop where
  os : w'.os = w.os
  tape : w'.tape = w.tape
  output : w'.output = w.output
  size : w'.heap.size = w.heap.size
  block : ∀ k, k ≠ b → w'.heap[k]? = w.heap[k]?

theorem Only.refl (b : Nat) (w : World) : Only b w w := ⟨rfl, rfl, rfl, rfl, fun _ _ => rfl⟩
theorem Only.trans {b : Nat} {u v w : World} (h : Only b u v) (k : Only b v w) : Only b u w :=
  ⟨k.os.trans h.os, k.tape.trans h.tape, k.output.trans h.output, k.size.trans h.size, fun i hi => (k.block i hi).trans (h.block i hi)⟩
theorem Only.setCell (b o : Nat) (w : World) (v : Value) : Only b w (w.setCell ⟨b, o, none⟩ v) :=
  ⟨rfl, rfl, rfl, by simp [World.setCell], fun k hk => Below.heap_setCell _ _ _ _ hk⟩
theorem Only.drewN {b : Nat} {u w : World} (h : Only b u w) (n : Nat) : Only b u (w.drewN n) := ⟨h.os, h.tape, h.output, h.size, h.block⟩
theorem Only.below {B b : Nat} {w w' : World} (h : Only b w w') (hB : B ≤ b) : Below B w w' :=
  ⟨h.os, h.tape, h.output, Nat.le_of_eq h.size.symm, fun k hk => h.block k (by omega)⟩

theorem Rd.lt {b : Nat} {s : ByteArray} {e : Int} {w : World} (h : Rd b s e w) : b < w.heap.size := by
  have := h.blk
  rw [Array.getElem?_eq_some_iff] at this
  exact this.1
theorem Rd.c0 {b : Nat} {s : ByteArray} {e : Int} {w : World} (h : Rd b s e w) : w.cell? ⟨b, 0, none⟩ = some (.string s) := by simp [World.cell?, h.blk]
theorem Rd.c1 {b : Nat} {s : ByteArray} {e : Int} {w : World} (h : Rd b s e w) : w.cell? ⟨b, 1, none⟩ = some (.int .i64 e) := by simp [World.cell?, h.blk]
theorem Rd.f0 {b : Nat} {s : ByteArray} {e : Int} {w : World} (h : Rd b s e w) : w.frozen? ⟨b, 0, none⟩ = false := by simp [World.frozen?, h.blk]
theorem Rd.f1 {b : Nat} {s : ByteArray} {e : Int} {w : World} (h : Rd b s e w) : w.frozen? ⟨b, 1, none⟩ = false := by simp [World.frozen?, h.blk]
theorem Rd.set0 {b : Nat} {s : ByteArray} {e : Int} {w : World} (h : Rd b s e w) (t : ByteArray) (ht : t.size ≤ maxLen) : Rd b t e (w.setCell ⟨b, 0, none⟩ (.string t)) :=
  ⟨by simp [World.setCell, Array.getElem?_modify, h.blk], ht⟩
theorem Rd.set1 {b : Nat} {s : ByteArray} {e : Int} {w : World} (h : Rd b s e w) (n : Int) : Rd b s n (w.setCell ⟨b, 1, none⟩ (.int .i64 n)) :=
  ⟨by simp [World.setCell, Array.getElem?_modify, h.blk], h.sz⟩
theorem Rd.keep {b c : Nat} {s : ByteArray} {e : Int} {w w' : World} (h : Rd b s e w) (k : Only c w w') (hb : b ≠ c) : Rd b s e w' := ⟨(k.block b hb).trans h.blk, h.sz⟩
theorem Rd.below {b B : Nat} {s : ByteArray} {e : Int} {w w' : World} (h : Rd b s e w) (k : Below B w w') (hb : b < B) : Rd b s e w' := ⟨(k.block b hb).trans h.blk, h.sz⟩
theorem Rd.made (s : ByteArray) (hs : s.size ≤ maxLen) (w : World) : Rd w.heap.size s 0 (w.alloc (.cells #[.string s, .int .i64 0] 202)) :=
  ⟨by show (w.heap.push _)[w.heap.size]? = _; simp, hs⟩

theorem ret_bool {a b : Bool} (h : a = b) : Ending.returned (.bool a) = .returned (.bool b) := by rw [h]
theorem ret_int {k : IntKind} {a b : Int} (h : a = b) : Ending.returned (.int k a) = .returned (.int k b) := by rw [h]

set_option maxHeartbeats 400000 in
theorem isSize_any (n : Int) (w : World) :
    Calls Tryz.prog 84 #[.int .i64 n] w fun e w' => e = .returned (.bool (szB n)) ∧ w = w' := by
  by_cases h1 : n = 1
  · subst h1
    go_enter Tryz.func84, Tryz.ntmps84
    go_wp2
    go_ret
    exact ⟨rfl, rfl⟩
  · by_cases h2 : n = 2
    · subst h2
      go_enter Tryz.func84, Tryz.ntmps84
      go_wp2
      go_ret
      exact ⟨rfl, rfl⟩
    · by_cases h4 : n = 4
      · subst h4
        go_enter Tryz.func84, Tryz.ntmps84
        go_wp2
        go_ret
        exact ⟨rfl, rfl⟩
      · have e1 : (n == 1) = false := beq_eq_false_iff_ne.2 h1
        have e2 : (n == 2) = false := beq_eq_false_iff_ne.2 h2
        have e4 : (n == 4) = false := beq_eq_false_iff_ne.2 h4
        have hs : szB n = false := by simp [szB, h1, h2, h4]
        have HS : Hid (szB n = false) := hs
        clear hs h1 h2 h4
        go_enter Tryz.func84, Tryz.ntmps84
        go_wp2
        go_ret
        exact ⟨ret_bool HS.out.symm, rfl⟩

set_option maxHeartbeats 400000 in
theorem left_any (b : Nat) (s : ByteArray) (e : Int) (w : World) (h : Rd b s e w) :
    Calls Tryz.prog 112 #[.pointer (some ⟨b, 0, none⟩)] w fun r w' => r = .returned (.int .i64 s.size) ∧ w = w' := by
  have c0 := h.c0; have c1 := h.c1; have f0 := h.f0; have f1 := h.f1; have lt := h.lt
  clear h
  go_enter Tryz.func112, Tryz.ntmps112
  go_wp2
  go_ret
  exact ⟨rfl, rfl⟩

set_option maxHeartbeats 400000 in
theorem err_any (b : Nat) (s : ByteArray) (e : Int) (w : World) (h : Rd b s e w) :
    Calls Tryz.prog 111 #[.pointer (some ⟨b, 0, none⟩)] w fun r w' => r = .returned (.int .i64 e) ∧ w = w' := by
  have c0 := h.c0; have c1 := h.c1; have f0 := h.f0; have f1 := h.f1; have lt := h.lt
  clear h
  go_enter Tryz.func111, Tryz.ntmps111
  go_wp2
  go_ret
  exact ⟨rfl, rfl⟩

set_option maxHeartbeats 400000 in
theorem read_any (s : ByteArray) (w : World) :
    Calls Tryz.prog 109 #[.string s] w fun r w' => r = .returned (.pointer (some ⟨w.heap.size, 0, none⟩)) ∧ w' = w.alloc (.cells #[.string s, .int .i64 0] 202) := by
  go_enter Tryz.func109, Tryz.ntmps109
  go_wp2
  go_ret
  exact ⟨rfl, rfl⟩

set_option maxHeartbeats 400000 in
theorem fail_ok (b : Nat) (s : ByteArray) (n : Int) (w : World) (h : Rd b s 0 w) :
    Calls Tryz.prog 124 #[.pointer (some ⟨b, 0, none⟩), .int .i64 n] w fun r w' => r = .returned (.tuple #[]) ∧ w' = w.setCell ⟨b, 1, none⟩ (.int .i64 n) := by
  have c0 := h.c0; have c1 := h.c1; have f0 := h.f0; have f1 := h.f1; have lt := h.lt
  clear h
  go_enter Tryz.func124, Tryz.ntmps124
  go_wp2
  go_end0
  exact ⟨rfl, rfl⟩

set_option maxHeartbeats 400000 in
theorem fail_no (b : Nat) (s : ByteArray) (e n : Int) (w : World) (h : Rd b s e w) (he : e ≠ 0) :
    Calls Tryz.prog 124 #[.pointer (some ⟨b, 0, none⟩), .int .i64 n] w fun r w' => r = .returned (.tuple #[]) ∧ w = w' := by
  have c0 := h.c0; have c1 := h.c1; have f0 := h.f0; have f1 := h.f1; have lt := h.lt
  clear h
  have e1 : (e == 0) = false := beq_eq_false_iff_ne.2 he
  clear he
  go_enter Tryz.func124, Tryz.ntmps124
  go_wp2
  go_end0
  exact ⟨rfl, rfl⟩

/-- What Bytes(n) answers, what is left, and the error behind it. -/
def rdBytes (s : ByteArray) (e n : Int) : ByteArray × ByteArray × Int :=
  if e ≠ 0 then (ByteArray.empty, s, e) else if n < 0 then (ByteArray.empty, s, 1) else if (s.size : Int) < n then (ByteArray.empty, s, 10) else (s.extract 0 n.toNat, s.extract n.toNat s.size, 0)

set_option maxHeartbeats 400000 in
theorem bytes_any (b : Nat) (s : ByteArray) (e n : Int) (w : World) (h : Rd b s e w) :
    Calls Tryz.prog 125 #[.pointer (some ⟨b, 0, none⟩), .int .i64 n] w fun r w' => r = .returned (.string (rdBytes s e n).1) ∧ Rd b (rdBytes s e n).2.1 (rdBytes s e n).2.2 w' ∧ Only b w w' := by
  have c0 := h.c0; have c1 := h.c1; have f0 := h.f0; have f1 := h.f1; have lt := h.lt; have sz := h.sz
  have H : Hid (Rd b s e w) := h
  clear h
  by_cases he : e = 0
  · subst he
    by_cases hn : n < 0
    · have E : Hid (rdBytes s 0 n = (ByteArray.empty, s, 1)) := by simp [Hid, rdBytes, hn]
      go_enter Tryz.func125, Tryz.ntmps125
      go_wp2_with (go_at_call 124; refine (fail_ok b s _ _ H.out).mono ?_; rintro e w' ⟨rfl, rfl⟩)
      go_ret
      rw [E.out]
      exact ⟨rfl, H.out.set1 _, Only.setCell _ _ _ _⟩
    · by_cases hl : (s.size : Int) < n
      · have E : Hid (rdBytes s 0 n = (ByteArray.empty, s, 10)) := by simp [Hid, rdBytes, hn, hl]
        go_enter Tryz.func125, Tryz.ntmps125
        go_wp2_with (go_at_call 124; refine (fail_ok b s _ _ H.out).mono ?_; rintro e w' ⟨rfl, rfl⟩)
        go_ret
        rw [E.out]
        exact ⟨rfl, H.out.set1 _, Only.setCell _ _ _ _⟩
      · have E : Hid (rdBytes s 0 n = (s.extract 0 n.toNat, s.extract n.toNat s.size, 0)) := by simp [Hid, rdBytes, hn, hl]
        obtain ⟨m, rfl⟩ := Int.eq_ofNat_of_zero_le (Int.not_lt.1 hn)
        have hm : m ≤ s.size := by omega
        go_enter Tryz.func125, Tryz.ntmps125
        go_wp2
        go_ret
        rw [E.out]
        refine ⟨?_, ?_, ?_⟩
        · rfl
        · exact H.out.set0 _ (by simp; omega)
        · exact Only.setCell _ _ _ _
  · have E : Hid (rdBytes s e n = (ByteArray.empty, s, e)) := by simp [Hid, rdBytes, he]
    have e1 : (e != 0) = true := by rw [bne_iff_ne]; exact he
    clear he
    go_enter Tryz.func125, Tryz.ntmps125
    go_wp2
    go_ret
    rw [E.out]
    exact ⟨rfl, H.out, Only.refl _ _⟩
end

/-! CdMid -/
section
open Go.RowKit

theorem or_i64_nat (a b : Nat) (ha : a < 4611686018427387904) (hb : b < 4611686018427387904) : bits .or .i64 (a : Int) (b : Int) = ((a ||| b : Nat) : Int) := by
  have hx : a ||| b < 2 ^ 62 := Nat.or_lt_two_pow (by omega) (by omega)
  show IntKind.i64.wrap ((BitVec.ofInt 64 (a : Int) ||| BitVec.ofInt 64 (b : Int)).toNat : Int) = _
  rw [BitVec.toNat_or, ofInt_u64 a (by omega), ofInt_u64 b (by omega), IntKind.wrap_i64]
  omega
theorem or_byte (m c : Nat) (hm : m < 16777216) (hc : c < 256) : Value.int .i64 (bits .or .i64 ((m : Int) * 256) (wrap64 (c : Int))) = .int .i64 ((m * 256 + c : Nat) : Int) := by
  have e1 : wrap64 (c : Int) = (c : Int) := by unfold wrap64; omega
  have e2 : ((m : Int) * 256) = ((m * 256 : Nat) : Int) := by omega
  rw [e1, e2, or_i64_nat _ _ (by omega) (by omega), nat_join 8 _ _ (by omega) (by omega)]

/-- What End() answers. -/
def rdEnd (s : ByteArray) (e : Int) : Int := if e ≠ 0 then e else if s.size = 0 then 0 else 11

set_option maxHeartbeats 400000 in
theorem end_any (b : Nat) (s : ByteArray) (e : Int) (w : World) (h : Rd b s e w) :
    Calls Tryz.prog 114 #[.pointer (some ⟨b, 0, none⟩)] w fun r w' => r = .returned (.int .i64 (rdEnd s e)) ∧ w = w' := by
  have H : Hid (Rd b s e w) := h
  have sz := h.sz
  clear h
  by_cases he : e = 0
  · subst he
    by_cases hs : s.size = 0
    · have E : Hid (rdEnd s 0 = 0) := by simp [Hid, rdEnd, hs]
      have hs' : ¬ (0 : Int) < (s.size : Int) := by omega
      clear hs
      go_enter Tryz.func114, Tryz.ntmps114
      go_wp2_with (first | (go_at_call 111; refine (err_any b s _ _ H.out).mono ?_; rintro e w' ⟨rfl, rfl⟩) | (go_at_call 112; refine (left_any b s _ _ H.out).mono ?_; rintro e w' ⟨rfl, rfl⟩))
      go_ret
      exact ⟨ret_int E.out.symm, rfl⟩
    · have E : Hid (rdEnd s 0 = 11) := by simp [Hid, rdEnd, hs]
      have hs' : (0 : Int) < (s.size : Int) := by omega
      clear hs
      go_enter Tryz.func114, Tryz.ntmps114
      go_wp2_with (first | (go_at_call 111; refine (err_any b s _ _ H.out).mono ?_; rintro e w' ⟨rfl, rfl⟩) | (go_at_call 112; refine (left_any b s _ _ H.out).mono ?_; rintro e w' ⟨rfl, rfl⟩))
      go_ret
      exact ⟨ret_int E.out.symm, rfl⟩
  · have E : Hid (rdEnd s e = e) := by simp [Hid, rdEnd, he]
    have e1 : (e != 0) = true := by rw [bne_iff_ne]; exact he
    clear he
    go_enter Tryz.func114, Tryz.ntmps114
    go_wp2_with (first | (go_at_call 111; refine (err_any b s _ _ H.out).mono ?_; rintro e w' ⟨rfl, rfl⟩) | (go_at_call 112; refine (left_any b s _ _ H.out).mono ?_; rintro e w' ⟨rfl, rfl⟩))
    go_ret
    exact ⟨ret_int E.out.symm, rfl⟩

/-- What Int(size) answers, what is left, and the error behind it. -/
def rdInt (s : ByteArray) (e n : Int) : Int × ByteArray × Int :=
  if szB n = false then (0, s, if e ≠ 0 then e else 1) else ((beNat (rdBytes s e n).1.data.toList : Int), (rdBytes s e n).2.1, (rdBytes s e n).2.2)

theorem rdBytes_le4 (s : ByteArray) (e n : Int) (h : szB n = true) : (rdBytes s e n).1.size ≤ 4 := by
  have : n = 1 ∨ n = 2 ∨ n = 4 := by simpa [szB] using h
  unfold rdBytes
  split
  · simp
  · split
    · simp
    · split
      · simp
      · simp; omega

set_option maxHeartbeats 400000 in
theorem int_any (b : Nat) (s : ByteArray) (e n : Int) (w : World) (h : Rd b s e w) :
    Calls Tryz.prog 110 #[.pointer (some ⟨b, 0, none⟩), .int .i64 n] w fun r w' => r = .returned (.int .i64 (rdInt s e n).1) ∧ Rd b (rdInt s e n).2.1 (rdInt s e n).2.2 w' ∧ Only b w w' := by
  have H : Hid (Rd b s e w) := h
  have sz := h.sz
  clear h
  cases hz : szB n
  · by_cases he : e = 0
    · subst he
      have E : Hid (rdInt s 0 n = (0, s, 1)) := by simp [Hid, rdInt, hz]
      go_enter Tryz.func110, Tryz.ntmps110
      go_wp2_with (first | (go_at_call 84; refine (isSize_any _ _).mono ?_; rintro e w' ⟨rfl, rfl⟩) | (go_at_call 124; refine (fail_ok b s _ _ H.out).mono ?_; rintro e w' ⟨rfl, rfl⟩))
      go_ret
      rw [E.out]
      exact ⟨rfl, H.out.set1 _, Only.setCell _ _ _ _⟩
    · have E : Hid (rdInt s e n = (0, s, e)) := by simp [Hid, rdInt, hz, he]
      go_enter Tryz.func110, Tryz.ntmps110
      go_wp2_with (first | (go_at_call 84; refine (isSize_any _ _).mono ?_; rintro e w' ⟨rfl, rfl⟩) | (go_at_call 124; refine (fail_no b s _ _ _ H.out he).mono ?_; rintro e w' ⟨rfl, rfl⟩))
      go_ret
      rw [E.out]
      exact ⟨rfl, H.out, Only.refl _ _⟩
  · have E : Hid (rdInt s e n = ((beNat (rdBytes s e n).1.data.toList : Int), (rdBytes s e n).2.1, (rdBytes s e n).2.2)) := by simp [Hid, rdInt, hz]
    have h4 := rdBytes_le4 s e n hz
    have C := bytes_any b s e n w H.out
    revert C E h4
    generalize rdBytes s e n = t
    obtain ⟨x, s', e'⟩ := t
    intro E h4 C0
    have C : Hid _ := C0
    clear C0
    simp only at h4
    go_enter Tryz.func110, Tryz.ntmps110
    go_wp2_with (first | (go_at_call 84; refine (isSize_any _ _).mono ?_; rintro e w' ⟨rfl, rfl⟩) | (go_at_call 125; refine Calls.mono C.out ?_; rintro e w' ⟨rfl, hr, ho⟩))
    go_loop [6, 18] (fun v i => ∃ k : Nat, k ≤ x.size ∧ i = .int .i64 k ∧ v = .int .i64 (beNat (x.data.toList.take k))) (fun _ i => x.size - (intOf i).toNat)
    case atStart => exact ⟨0, Nat.zero_le _, rfl, rfl⟩
    case round =>
      obtain ⟨k, hk, rfl, rfl⟩ := hrel
      by_cases hlt : k < x.size
      · have T : Hid (beNat (x.data.toList.take (k + 1)) = beNat (x.data.toList.take k) * 256 + x[k].toNat) := beNat_take x.data.toList k (by simpa using hlt)
        have B := beNat_take_lt x.data.toList k (by omega)
        go_wp2
        have C8 : x[k].toNat < 256 := UInt8.toNat_lt _
        refine ⟨⟨k + 1, by omega, by go_num, ?_⟩, by simp [intOf]; omega⟩
        rw [T.out, or_byte _ _ B C8]
      · have T : Hid (x.data.toList.take k = x.data.toList) := List.take_of_length_le (by simp; omega)
        go_wp2
        go_ret
        rw [E.out]
        exact ⟨ret_int (by rw [T.out]), hr, ho⟩
end

/-! CdPut -/
section
open Go.RowKit

/-- Whether a number can be put into so many bytes. -/
def putB (size n : Int) : Bool := szB size && decide (0 ≤ n ∧ n < ((256 ^ size.toNat : Nat) : Int))
/-- The bytes that Put answers. -/
def putS (size n : Int) : List UInt8 := if putB size n = true then beBytes size.toNat n.toNat else []
/-- The error that Put answers. -/
def putE (size n : Int) : Int := if putB size n = true then 0 else 1

set_option maxHeartbeats 400000 in
theorem put_size (size n : Int) (w : World) (h : szB size = false) :
    Calls Tryz.prog 76 #[.int .i64 size, .int .i64 n] w fun r w' => r = .returned (.tuple #[.string ⟨#[]⟩, .int .i64 1]) ∧ w = w' := by
  go_enter Tryz.func76, Tryz.ntmps76
  go_wp2_with (go_at_call 84; refine (isSize_any _ _).mono ?_; rintro e w' ⟨rfl, rfl⟩)
  go_ret2
  exact ⟨rfl, rfl⟩

set_option maxHeartbeats 400000 in
theorem put_neg (size n : Int) (w : World) (h : szB size = true) (hn : n < 0) :
    Calls Tryz.prog 76 #[.int .i64 size, .int .i64 n] w fun r w' => r = .returned (.tuple #[.string ⟨#[]⟩, .int .i64 1]) ∧ w = w' := by
  go_enter Tryz.func76, Tryz.ntmps76
  go_wp2_with (go_at_call 84; refine (isSize_any _ _).mono ?_; rintro e w' ⟨rfl, rfl⟩)
  go_ret2
  exact ⟨rfl, rfl⟩

set_option maxHeartbeats 400000 in
theorem put_big1 (n : Int) (w : World) (hn : ¬ n < 0) (hb : (n / 256 != 0) = true) :
    Calls Tryz.prog 76 #[.int .i64 1, .int .i64 n] w fun r w' => r = .returned (.tuple #[.string ⟨#[]⟩, .int .i64 1]) ∧ w = w' := by
  have h : szB 1 = true := rfl
  go_enter Tryz.func76, Tryz.ntmps76
  go_wp2_with (go_at_call 84; refine (isSize_any _ _).mono ?_; rintro e w' ⟨rfl, rfl⟩)
  go_ret2
  exact ⟨rfl, rfl⟩

set_option maxHeartbeats 400000 in
theorem put_big2 (n : Int) (w : World) (hn : ¬ n < 0) (hb : (n / 65536 != 0) = true) :
    Calls Tryz.prog 76 #[.int .i64 2, .int .i64 n] w fun r w' => r = .returned (.tuple #[.string ⟨#[]⟩, .int .i64 1]) ∧ w = w' := by
  have h : szB 2 = true := rfl
  go_enter Tryz.func76, Tryz.ntmps76
  go_wp2_with (go_at_call 84; refine (isSize_any _ _).mono ?_; rintro e w' ⟨rfl, rfl⟩)
  go_ret2
  exact ⟨rfl, rfl⟩

set_option maxHeartbeats 400000 in
theorem put_big4 (n : Int) (w : World) (hn : ¬ n < 0) (hb : (n / 4294967296 != 0) = true) :
    Calls Tryz.prog 76 #[.int .i64 4, .int .i64 n] w fun r w' => r = .returned (.tuple #[.string ⟨#[]⟩, .int .i64 1]) ∧ w = w' := by
  have h : szB 4 = true := rfl
  go_enter Tryz.func76, Tryz.ntmps76
  go_wp2_with (go_at_call 84; refine (isSize_any _ _).mono ?_; rintro e w' ⟨rfl, rfl⟩)
  go_ret2
  exact ⟨rfl, rfl⟩

theorem conv_new (l : List UInt8) (cs : Array Value) (w : World) (m c : Nat) (hcs : cs = (l.map fun b => Value.int .u8 (b.toNat : Int)).toArray) (hm : m = l.length) :
    Sem.run Tryz.prog (convert 132 9 (.slice (some ⟨w.heap.size, 0, none⟩) m c)) (w.alloc (.cells cs 5)) = .ok (.string ⟨l.toArray⟩) (w.alloc (.cells cs 5)) := by
  subst hm
  refine run_convert_bytes_back _ 132 9 5 _ c l Tryz.underlying132 Tryz.underlying5 Tryz.underlying9 (fun j hj => ?_)
  have e : (⟨w.heap.size, 0, none⟩ : Addr).add j = ⟨w.heap.size, j, none⟩ := by simp [Addr.add]; intro h; omega
  rw [e, World.cell?_alloc_at cs 5 _ j rfl, hcs]
  simp [List.getElem?_eq_getElem hj]

set_option maxRecDepth 100000 in
set_option maxHeartbeats 1000000 in
theorem put1 (n : Nat) (w : World) (hn : n < 256) :
    Calls Tryz.prog 76 #[.int .i64 1, .int .i64 n] w fun r w' => r = .returned (.tuple #[.string ⟨(beBytes 1 n).toArray⟩, .int .i64 0]) ∧ Below w.heap.size w w' := by
  have h : szB 1 = true := rfl
  have hb : (((n : Int) / 256) != 0) = false := by simp; omega
  have hn0 : ¬ (n : Int) < 0 := by omega
  have hmk : ∀ w, (Instr.makeSlice 132 (.int .i64 1) (.int .i64 1)).run Tryz.prog w = .ok (.slice (some ⟨w.heap.size, 0, none⟩) 1 1) (w.alloc (.cells #[.int .u8 0] 5)) := fun _ => by kernel_rfl
  have hcv := conv_new (beBytes 1 n) #[.int .u8 (n : Int)] w 1 1 (by simp [beBytes]; omega) (beBytes_length _ _).symm
  go_enter Tryz.func76, Tryz.ntmps76
  go_wp2_with (go_at_call 84; refine (isSize_any _ _).mono ?_; rintro e w' ⟨rfl, rfl⟩)
  refine wp_loop_rounds 2 ?_
  repeat any_goals (rw [rounds_succ]; go_wp2)
  go_ret2
  exact ⟨rfl, (Below.refl _ _).alloc (Nat.le_refl _) _⟩

set_option maxRecDepth 100000 in
set_option maxHeartbeats 1000000 in
theorem put2 (n : Nat) (w : World) (hn : n < 65536) :
    Calls Tryz.prog 76 #[.int .i64 2, .int .i64 n] w fun r w' => r = .returned (.tuple #[.string ⟨(beBytes 2 n).toArray⟩, .int .i64 0]) ∧ Below w.heap.size w w' := by
  have h : szB 2 = true := rfl
  have hb : (((n : Int) / 65536) != 0) = false := by simp; omega
  have hn0 : ¬ (n : Int) < 0 := by omega
  have hmk : ∀ w, (Instr.makeSlice 132 (.int .i64 2) (.int .i64 2)).run Tryz.prog w = .ok (.slice (some ⟨w.heap.size, 0, none⟩) 2 2) (w.alloc (.cells #[.int .u8 0, .int .u8 0] 5)) := fun _ => by kernel_rfl
  have hcv := conv_new (beBytes 2 n) #[.int .u8 ((n : Int) / 256), .int .u8 ((n : Int) % 256)] w 2 2 (by simp [beBytes]; omega) (beBytes_length _ _).symm
  go_enter Tryz.func76, Tryz.ntmps76
  go_wp2_with (go_at_call 84; refine (isSize_any _ _).mono ?_; rintro e w' ⟨rfl, rfl⟩)
  refine wp_loop_rounds 3 ?_
  repeat any_goals (rw [rounds_succ]; go_wp2)
  go_ret2
  exact ⟨rfl, (Below.refl _ _).alloc (Nat.le_refl _) _⟩

set_option maxRecDepth 100000 in
set_option maxHeartbeats 1000000 in
theorem put4 (n : Nat) (w : World) (hn : n < 4294967296) :
    Calls Tryz.prog 76 #[.int .i64 4, .int .i64 n] w fun r w' => r = .returned (.tuple #[.string ⟨(beBytes 4 n).toArray⟩, .int .i64 0]) ∧ Below w.heap.size w w' := by
  have h : szB 4 = true := rfl
  have hb : (((n : Int) / 4294967296) != 0) = false := by simp; omega
  have hn0 : ¬ (n : Int) < 0 := by omega
  have hmk : ∀ w, (Instr.makeSlice 132 (.int .i64 4) (.int .i64 4)).run Tryz.prog w = .ok (.slice (some ⟨w.heap.size, 0, none⟩) 4 4) (w.alloc (.cells #[.int .u8 0, .int .u8 0, .int .u8 0, .int .u8 0] 5)) := fun _ => by kernel_rfl
  have hcv := conv_new (beBytes 4 n) #[.int .u8 ((n : Int) / 16777216), .int .u8 ((n : Int) / 65536 % 256), .int .u8 ((n : Int) / 256 % 256), .int .u8 ((n : Int) % 256)] w 4 4 (by simp [beBytes]; omega) (beBytes_length _ _).symm
  go_enter Tryz.func76, Tryz.ntmps76
  go_wp2_with (go_at_call 84; refine (isSize_any _ _).mono ?_; rintro e w' ⟨rfl, rfl⟩)
  refine wp_loop_rounds 5 ?_
  repeat any_goals (rw [rounds_succ]; go_wp2)
  go_ret2
  exact ⟨rfl, (Below.refl _ _).alloc (Nat.le_refl _) _⟩

theorem put_no {size n : Int} {r : Ending} {w w' : World} (hp : putB size n = false) (h : r = .returned (.tuple #[.string ⟨#[]⟩, .int .i64 1]) ∧ w = w') :
    r = .returned (.tuple #[.string ⟨(putS size n).toArray⟩, .int .i64 (putE size n)]) ∧ Below w.heap.size w w' := by
  obtain ⟨rfl, rfl⟩ := h
  simp [putS, putE, hp, Below.refl]
theorem put_yes {size n : Int} {r : Ending} {w w' : World} (k m : Nat) (hk : size = k) (hm : n = m) (hp : putB size n = true) (h : r = .returned (.tuple #[.string ⟨(beBytes k m).toArray⟩, .int .i64 0]) ∧ Below w.heap.size w w') :
    r = .returned (.tuple #[.string ⟨(putS size n).toArray⟩, .int .i64 (putE size n)]) ∧ Below w.heap.size w w' := by
  obtain ⟨rfl, hb⟩ := h
  subst hk hm
  simp [putS, putE, hp, hb]

theorem put_any (size n : Int) (w : World) :
    Calls Tryz.prog 76 #[.int .i64 size, .int .i64 n] w fun r w' => r = .returned (.tuple #[.string ⟨(putS size n).toArray⟩, .int .i64 (putE size n)]) ∧ Below w.heap.size w w' := by
  cases hz : szB size
  · exact (put_size size n w hz).mono fun r w' h => put_no (by simp [putB, hz]) h
  · by_cases hn : n < 0
    · exact (put_neg size n w hz hn).mono fun r w' h => put_no (by simp [putB]; intro _ _; omega) h
    · obtain ⟨m, rfl⟩ := Int.eq_ofNat_of_zero_le (Int.not_lt.1 hn)
      have hs : size = 1 ∨ size = 2 ∨ size = 4 := by simpa [szB] using hz
      rcases hs with rfl | rfl | rfl
      · by_cases hb : m < 256
        · exact (put1 m w hb).mono fun r w' h => put_yes 1 m rfl rfl (by simp [putB, hz]; omega) h
        · exact (put_big1 m w hn (by rw [bne_iff_ne]; omega)).mono fun r w' h => put_no (by simp [putB]; omega) h
      · by_cases hb : m < 65536
        · exact (put2 m w hb).mono fun r w' h => put_yes 2 m rfl rfl (by simp [putB, hz]; omega) h
        · exact (put_big2 m w hn (by rw [bne_iff_ne]; omega)).mono fun r w' h => put_no (by simp [putB]; omega) h
      · by_cases hb : m < 4294967296
        · exact (put4 m w hb).mono fun r w' h => put_yes 4 m rfl rfl (by simp [putB, hz]; omega) h
        · exact (put_big4 m w hn (by rw [bne_iff_ne]; omega)).mono fun r w' h => put_no (by simp [putB]; omega) h
end

/-! CdJoin -/
section
open Go.RowKit

/-- All, one behind the other. -/
def cat (xs : List ByteArray) : List UInt8 := (xs.map (·.data.toList)).flatten

theorem join_cat (xs : List ByteArray) : Lib.join (xs.map (·.data.toList)) (ByteArray.data ⟨#[]⟩).toList = cat xs := by
  cases xs with
  | nil => rfl
  | cons x r =>
    rw [List.map_cons, Lib.join_cons]
    simp [cat, Lib.joinTail]
    rfl

set_option maxHeartbeats 400000 in
theorem join_any (bk o c m : Nat) (xs : List ByteArray) (w : World) (hcells : ∀ (j : Nat) x, xs[j]? = some x → w.cell? ⟨bk, o + j, none⟩ = some (.string x)) (hbk : bk < w.heap.size) (hm : xs.length = m) (hN : xs.length ≤ 140737488355328) (hcap : xs.length ≤ c) (hlen : (cat xs).length ≤ 140737488355328) :
    Calls Tryz.prog 63 #[.slice (some ⟨bk, o, none⟩) m c] w fun r w' => r = .returned (.string ⟨(cat xs).toArray⟩) ∧ Below w.heap.size w w' := by
  subst hm
  have C : Hid _ := Tryz.strings_Join bk o c xs ⟨#[]⟩ w hcells hbk hN hcap (by rw [join_cat]; exact hlen)
  rw [join_cat] at C
  clear hcells hlen
  go_enter Tryz.func63, Tryz.ntmps63
  go_wp2_with (go_at_call 77; refine Calls.mono C.out ?_; rintro e w' ⟨rfl, hb⟩)
  go_ret
  exact ⟨rfl, hb⟩

set_option maxHeartbeats 400000 in
theorem join_none (a : Option Addr) (c : Nat) (w : World) :
    Calls Tryz.prog 63 #[.slice a 0 c] w fun r w' => r = .returned (.string ⟨#[]⟩) ∧ w = w' := by
  go_enter Tryz.func63, Tryz.ntmps63
  go_wp2_with (go_at_call 77; refine (Tryz.strings_Join_none a c _ w).mono ?_; rintro e w' ⟨rfl, rfl⟩)
  go_ret
  exact ⟨rfl, rfl⟩

theorem join2 (x y : ByteArray) (w : World) (hl : x.size + y.size ≤ 140737488355328) :
    Calls Tryz.prog 63 #[.slice (some ⟨w.heap.size, 0, none⟩) 2 2] (w.alloc (.cells #[.string x, .string y] 9)) fun r w' => r = .returned (.string ⟨(x.data.toList ++ y.data.toList).toArray⟩) ∧ Below w.heap.size w w' := by
  have hc : cat [x, y] = x.data.toList ++ y.data.toList := by simp [cat]
  have h := join_any w.heap.size 0 2 2 [x, y] (w.alloc (.cells #[.string x, .string y] 9)) (fun j z hj => ?_) (by simp) rfl (by simp) (by simp) (by rw [hc]; simpa using hl)
  · rw [hc] at h
    exact h.mono fun r w' ⟨a, b⟩ => ⟨a, ((Below.refl _ _).alloc (Nat.le_refl _) _).trans (b.mono (by simp))⟩
  · rw [World.cell?_alloc_at _ 9 _ (0 + j) rfl, Nat.zero_add]
    match j, hj with
    | 0, hj => simp at hj ⊢; exact hj
    | 1, hj => simp at hj ⊢; exact hj

theorem join3 (x y z : ByteArray) (w : World) (hl : x.size + (y.size + z.size) ≤ 140737488355328) :
    Calls Tryz.prog 63 #[.slice (some ⟨w.heap.size, 0, none⟩) 3 3] (w.alloc (.cells #[.string x, .string y, .string z] 9)) fun r w' => r = .returned (.string ⟨(x.data.toList ++ (y.data.toList ++ z.data.toList)).toArray⟩) ∧ Below w.heap.size w w' := by
  have hc : cat [x, y, z] = x.data.toList ++ (y.data.toList ++ z.data.toList) := by simp [cat]
  have h := join_any w.heap.size 0 3 3 [x, y, z] (w.alloc (.cells #[.string x, .string y, .string z] 9)) (fun j u hj => ?_) (by simp) rfl (by simp) (by simp) (by rw [hc]; simpa using hl)
  · rw [hc] at h
    exact h.mono fun r w' ⟨a, b⟩ => ⟨a, ((Below.refl _ _).alloc (Nat.le_refl _) _).trans (b.mono (by simp))⟩
  · rw [World.cell?_alloc_at _ 9 _ (0 + j) rfl, Nat.zero_add]
    match j, hj with
    | 0, hj => simp at hj ⊢; exact hj
    | 1, hj => simp at hj ⊢; exact hj
    | 2, hj => simp at hj ⊢; exact hj
end

/-! CdLaws -/
section
open Go.RowKit

theorem ba_eta (s : ByteArray) : s = ⟨s.data.toList.toArray⟩ := by cases s; simp
theorem ba_size (l : List UInt8) : (⟨l.toArray⟩ : ByteArray).size = l.length := by simp [ByteArray.size]
theorem ba_ext {s t : ByteArray} (h : s.data.toList = t.data.toList) : s = t := ByteArray.ext (Array.toList_inj.1 h)
theorem ba_head (l r : List UInt8) : (⟨(l ++ r).toArray⟩ : ByteArray).extract 0 l.length = ⟨l.toArray⟩ := by
  apply ba_ext; rw [Lib.extract_data]; simp
theorem ba_tail (l r : List UInt8) : (⟨(l ++ r).toArray⟩ : ByteArray).extract l.length (l.length + r.length) = ⟨r.toArray⟩ := by
  apply ba_ext; rw [Lib.extract_data]; simp

theorem rdBytes_app (l r : List UInt8) (n : Int) (h : n = l.length) : rdBytes ⟨(l ++ r).toArray⟩ 0 n = (⟨l.toArray⟩, ⟨r.toArray⟩, 0) := by
  subst h
  have h1 : ¬ (l.length : Int) < 0 := by omega
  have h2 : ¬ (((⟨(l ++ r).toArray⟩ : ByteArray).size : Int) < l.length) := by rw [ba_size, List.length_append]; omega
  have h3 : (⟨(l ++ r).toArray⟩ : ByteArray).size = l.length + r.length := by rw [ba_size, List.length_append]
  unfold rdBytes
  rw [if_neg (by simp), if_neg h1, if_neg h2, Int.toNat_natCast, h3, ba_head, ba_tail]

theorem rdInt_app (l r : List UInt8) (n : Int) (h : n = l.length) (hz : szB n = true) : rdInt ⟨(l ++ r).toArray⟩ 0 n = ((beNat l : Int), ⟨r.toArray⟩, 0) := by
  unfold rdInt
  rw [rdBytes_app l r n h]
  simp [hz]

/-- Bytes that were read without an error: they stood at the beginning. -/
theorem rdBytes_inv (s : ByteArray) (e n : Int) (h : (rdBytes s e n).2.2 = 0) :
    e = 0 ∧ ∃ l r : List UInt8, s = ⟨(l ++ r).toArray⟩ ∧ n = (l.length : Int) ∧ rdBytes s e n = (⟨l.toArray⟩, ⟨r.toArray⟩, 0) := by
  by_cases he : e = 0
  · refine ⟨he, ?_⟩
    subst he
    by_cases h1 : n < 0
    · simp [rdBytes, h1] at h
    · by_cases h2 : (s.size : Int) < n
      · simp [rdBytes, h1, h2] at h
      · obtain ⟨k, rfl⟩ := Int.eq_ofNat_of_zero_le (Int.not_lt.1 h1)
        have hk : k ≤ s.data.toList.length := by
          have := Lib.size_eq s
          omega
        have hl : (s.data.toList.take k).length = k := by simp at hk ⊢; omega
        have hs : s = ⟨(s.data.toList.take k ++ s.data.toList.drop k).toArray⟩ := by rw [List.take_append_drop]
        refine ⟨s.data.toList.take k, s.data.toList.drop k, hs, by rw [hl], ?_⟩
        have := rdBytes_app (s.data.toList.take k) (s.data.toList.drop k) (k : Int) (by rw [hl])
        rw [← hs] at this
        exact this
  · simp [rdBytes, he] at h

theorem rdInt_inv (s : ByteArray) (e n : Int) (h : (rdInt s e n).2.2 = 0) :
    e = 0 ∧ szB n = true ∧ ∃ l r : List UInt8, s = ⟨(l ++ r).toArray⟩ ∧ n = (l.length : Int) ∧ rdInt s e n = ((beNat l : Int), ⟨r.toArray⟩, 0) := by
  cases hz : szB n
  · exfalso
    by_cases he : e = 0 <;> simp [rdInt, hz, he] at h
  · have h' : (rdBytes s e n).2.2 = 0 := by simpa [rdInt, hz] using h
    obtain ⟨he, l, r, hs, hn, _⟩ := rdBytes_inv s e n h'
    subst he
    refine ⟨rfl, rfl, l, r, hs, hn, ?_⟩
    rw [hs]
    exact rdInt_app l r n hn hz

theorem beNat_foldl (x : List UInt8) : ∀ i : Nat, x.foldl (fun a c => a * 256 + c.toNat) i = i * 256 ^ x.length + beNat x := by
  induction x with
  | nil => intro i; simp [beNat]
  | cons a x ih =>
    intro i
    have e : beNat (a :: x) = a.toNat * 256 ^ x.length + beNat x := by rw [beNat, List.foldl_cons, ih]; simp
    rw [List.foldl_cons, ih, e, List.length_cons, Nat.pow_succ, Nat.add_mul, Nat.mul_assoc, Nat.mul_comm 256, Nat.add_assoc]
theorem beNat_cons (a : UInt8) (x : List UInt8) : beNat (a :: x) = a.toNat * 256 ^ x.length + beNat x := by
  rw [beNat, List.foldl_cons, beNat_foldl]; simp

theorem mul_lt_step (a b p x y : Nat) (h : a < b) (hx : x < p) : a * p + x < b * p + y := by
  have h1 : (a + 1) * p ≤ b * p := Nat.mul_le_mul_right p h
  rw [Nat.add_mul, Nat.one_mul] at h1
  omega

theorem bytesLess_nat (x : List UInt8) : ∀ y : List UInt8, x.length = y.length → Op.bytesLess x y = decide (beNat x < beNat y) := by
  induction x with
  | nil => intro y h; rw [List.length_eq_zero_iff.1 h.symm]; rfl
  | cons a x ih =>
    intro y h
    cases y with
    | nil => simp at h
    | cons b y =>
      have hl : x.length = y.length := by simpa using h
      have hx := beNat_lt x
      have hy := beNat_lt y
      rw [Op.bytesLess, ih y hl, beNat_cons, beNat_cons, hl]
      rw [hl] at hx
      rcases Nat.lt_trichotomy a.toNat b.toNat with c | c | c
      · have e1 : a < b := UInt8.lt_iff_toNat_lt.2 c
        have e2 := mul_lt_step a.toNat b.toNat _ (beNat x) (beNat y) c hx
        simp [e1, e2]
      · have e1 : a = b := UInt8.toNat_inj.1 c
        subst e1
        simp
      · have e1 : ¬ a < b := by rw [UInt8.lt_iff_toNat_lt]; omega
        have e2 : a ≠ b := by intro e; subst e; omega
        have e3 := mul_lt_step b.toNat a.toNat _ (beNat y) (beNat x) c hy
        have e4 : ¬ (a.toNat * 256 ^ y.length + beNat x < b.toNat * 256 ^ y.length + beNat y) := Nat.not_lt.2 (Nat.le_of_lt e3)
        rw [decide_eq_false e4]
        simp [e1, e2]

theorem less_put (k n m : Nat) (hn : n < 256 ^ k) (hm : m < 256 ^ k) : Op.bytesLess (beBytes k n) (beBytes k m) = decide (n < m) := by
  rw [bytesLess_nat _ _ (by rw [beBytes_length, beBytes_length]), beNat_bytes k n hn, beNat_bytes k m hm]
theorem eq_put (k n m : Nat) (hn : n < 256 ^ k) (hm : m < 256 ^ k) : (beBytes k n == beBytes k m) = decide (n = m) := by
  by_cases h : n = m
  · subst h; simp
  · simp [h]; intro e; apply h; rw [← beNat_bytes k n hn, ← beNat_bytes k m hm, e]
end

end Go.Proofs.YtljmkajpjjdnhaaGreatDoor

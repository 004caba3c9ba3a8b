/-
  Texts of elder layers, joined: CdNums, CdSmall, CdMid, CdPut, CdJoin, CdLaws, CdRefPut, CrNums, CrStep, CrSum, CrLaid, CrRef, Pg, PgSeal, PgOpen, PgWorks, PgUse, PgRef.
-/
import Derived.Test.YtnngfkjbbedkpaaGreatDoorRows
import Derived.WalkKit
import Derived.WalkSpells
import Derived.WalkLawsBesides
import Derived.Test.YtnngfkjbbedkpaaGreatDoorShelf
import Derived.Laws.BitsAllLaws
import Derived.Test.YtnngfkjbbedkpaaGreatDoorChecked
import Derived.Below
import Derived.LoopTactic
import Derived.Lib.LaidTab
import Derived.LaidMore
import Derived.MakeChecks
import Derived.OwnWalk
import Derived.Deep.QuietTactic
namespace Go.Proofs.YtnngfkjbbedkpaaGreatDoor

/-! CdNums -/
section
/-- The number that stands in some bytes, the greatest first. -/
def beNat (l : List UInt8) : Nat := l.foldl (fun a c => a * 256 + c.toNat) 0

/-- A number in k bytes, the greatest first (what does not fit is cut off). -/
def beBytes : Nat → Nat → List UInt8
  | 0, _ => []
  | k + 1, n => beBytes k (n / 256) ++ [UInt8.ofNat (n % 256)]

theorem beNat_nil : beNat [] = 0 := rfl
theorem beNat_snoc (l : List UInt8) (c : UInt8) : beNat (l ++ [c]) = beNat l * 256 + c.toNat := by simp [beNat]
theorem beBytes_length (k : Nat) : ∀ n, (beBytes k n).length = k := by
  induction k with
  | zero => intro n; rfl
  | succ k ih => intro n; simp [beBytes, ih]

theorem snoc_of {α : Type} (l : List α) (k : Nat) (h : l.length = k + 1) : ∃ a c, l = a ++ [c] ∧ a.length = k := by
  have hne : l ≠ [] := by intro e; subst e; simp at h
  refine ⟨l.dropLast, l.getLast hne, (List.dropLast_concat_getLast hne).symm, by simp [h]⟩

theorem beNat_lt_len (k : Nat) : ∀ l : List UInt8, l.length = k → beNat l < 256 ^ k := by
  induction k with
  | zero => intro l h; rw [List.length_eq_zero_iff.1 h]; decide
  | succ k ih =>
    intro l h
    obtain ⟨a, c, rfl, ha⟩ := snoc_of l k h
    have h1 := ih a ha
    have h2 : c.toNat < 256 := UInt8.toNat_lt c
    rw [beNat_snoc, Nat.pow_succ]
    omega
theorem beNat_lt (l : List UInt8) : beNat l < 256 ^ l.length := beNat_lt_len _ l rfl

theorem beNat_bytes (k : Nat) : ∀ n, n < 256 ^ k → beNat (beBytes k n) = n := by
  induction k with
  | zero => intro n h; simp at h; subst h; rfl
  | succ k ih =>
    intro n h
    rw [beBytes, beNat_snoc, ih (n / 256) (by rw [Nat.pow_succ] at h; omega)]
    have : (UInt8.ofNat (n % 256)).toNat = n % 256 := by simp
    omega

theorem beBytes_nat (k : Nat) : ∀ l : List UInt8, l.length = k → beBytes k (beNat l) = l := by
  induction k with
  | zero => intro l h; rw [List.length_eq_zero_iff.1 h]; rfl
  | succ k ih =>
    intro l h
    obtain ⟨a, c, rfl, ha⟩ := snoc_of l k h
    have h2 : c.toNat < 256 := UInt8.toNat_lt c
    rw [beNat_snoc, beBytes]
    have e1 : (beNat a * 256 + c.toNat) / 256 = beNat a := by omega
    have e2 : (beNat a * 256 + c.toNat) % 256 = c.toNat := by omega
    rw [e1, e2, ih a ha]
    simp

theorem beNat_take (l : List UInt8) (k : Nat) (h : k < l.length) : beNat (l.take (k + 1)) = beNat (l.take k) * 256 + (l[k]).toNat := by
  rw [List.take_succ_eq_append_getElem h, beNat_snoc]

theorem beNat_take_lt (l : List UInt8) (k : Nat) (h : k < 4) : beNat (l.take k) < 16777216 := by
  have h1 := beNat_lt (l.take k)
  have h2 : (l.take k).length ≤ 3 := by simp; omega
  have h3 : 256 ^ (l.take k).length ≤ 256 ^ 3 := Nat.pow_le_pow_right (by omega) h2
  have h4 : (256 : Nat) ^ 3 = 16777216 := by decide
  omega
end

/-! CdSmall -/
section
open Go.RowKit

/-- A size that the codec knows. -/
def szB (n : Int) : Bool := decide (n = 1 ∨ n = 2 ∨ n = 4)

/-- Block b is a Reader: what is left of its text, and its error. -/
structure Rd (b : Nat) (s : ByteArray) (e : Int) (w : World) : Prop where
  blk : w.heap[b]? = some (.cells #[.string s, .int .i64 e] 188 (0, 0))
  sz : s.size ≤ maxLen

/-- Nothing has turned but block b; no block came. -/
structure Only (b : Nat) (w w' : World) : Prop where
  os : w'.os = w.os
  tape : w'.tape = w.tape
  output : w'.output = w.output
  size : w'.heap.size = w.heap.size
  block : ∀ k, k ≠ b → w'.heap[k]? = w.heap[k]?

theorem Only.refl (b : Nat) (w : World) : Only b w w := ⟨rfl, rfl, rfl, rfl, fun _ _ => rfl⟩
theorem Only.trans {b : Nat} {u v w : World} (h : Only b u v) (k : Only b v w) : Only b u w :=
  ⟨k.os.trans h.os, k.tape.trans h.tape, k.output.trans h.output, k.size.trans h.size, fun i hi => (k.block i hi).trans (h.block i hi)⟩
theorem Only.setCell (b o : Nat) (w : World) (v : Value) : Only b w (w.setCell ⟨b, o, none⟩ v) :=
  ⟨rfl, rfl, rfl, by simp [World.setCell], fun k hk => Below.heap_setCell _ _ _ _ hk⟩
theorem Only.drewN {b : Nat} {u w : World} (h : Only b u w) (n : Nat) : Only b u (w.drewN n) := ⟨h.os, h.tape, h.output, h.size, h.block⟩
theorem Only.below {B b : Nat} {w w' : World} (h : Only b w w') (hB : B ≤ b) : Below B w w' :=
  ⟨h.os, h.tape, h.output, Nat.le_of_eq h.size.symm, fun k hk => h.block k (by omega)⟩

theorem Rd.lt {b : Nat} {s : ByteArray} {e : Int} {w : World} (h : Rd b s e w) : b < w.heap.size := by
  have := h.blk
  rw [Array.getElem?_eq_some_iff] at this
  exact this.1
theorem Rd.c0 {b : Nat} {s : ByteArray} {e : Int} {w : World} (h : Rd b s e w) : w.cell? ⟨b, 0, none⟩ = some (.string s) := by simp [World.cell?, h.blk]
theorem Rd.c1 {b : Nat} {s : ByteArray} {e : Int} {w : World} (h : Rd b s e w) : w.cell? ⟨b, 1, none⟩ = some (.int .i64 e) := by simp [World.cell?, h.blk]
theorem Rd.f0 {b : Nat} {s : ByteArray} {e : Int} {w : World} (h : Rd b s e w) : w.frozen? ⟨b, 0, none⟩ = false := by simp [World.frozen?, h.blk]
theorem Rd.f1 {b : Nat} {s : ByteArray} {e : Int} {w : World} (h : Rd b s e w) : w.frozen? ⟨b, 1, none⟩ = false := by simp [World.frozen?, h.blk]
theorem Rd.set0 {b : Nat} {s : ByteArray} {e : Int} {w : World} (h : Rd b s e w) (t : ByteArray) (ht : t.size ≤ maxLen) : Rd b t e (w.setCell ⟨b, 0, none⟩ (.string t)) :=
  ⟨by simp [World.setCell, Array.getElem?_modify, h.blk], ht⟩
theorem Rd.set1 {b : Nat} {s : ByteArray} {e : Int} {w : World} (h : Rd b s e w) (n : Int) : Rd b s n (w.setCell ⟨b, 1, none⟩ (.int .i64 n)) :=
  ⟨by simp [World.setCell, Array.getElem?_modify, h.blk], h.sz⟩
theorem Rd.keep {b c : Nat} {s : ByteArray} {e : Int} {w w' : World} (h : Rd b s e w) (k : Only c w w') (hb : b ≠ c) : Rd b s e w' := ⟨(k.block b hb).trans h.blk, h.sz⟩
theorem Rd.below {b B : Nat} {s : ByteArray} {e : Int} {w w' : World} (h : Rd b s e w) (k : Below B w w') (hb : b < B) : Rd b s e w' := ⟨(k.block b hb).trans h.blk, h.sz⟩
theorem Rd.made (s : ByteArray) (hs : s.size ≤ maxLen) (w : World) : Rd w.heap.size s 0 (w.alloc (.cells #[.string s, .int .i64 0] 188)) :=
  ⟨by show (w.heap.push _)[w.heap.size]? = _; simp, hs⟩

theorem ret_bool {a b : Bool} (h : a = b) : Ending.returned (.bool a) = .returned (.bool b) := by rw [h]
theorem ret_int {k : IntKind} {a b : Int} (h : a = b) : Ending.returned (.int k a) = .returned (.int k b) := by rw [h]

set_option maxHeartbeats 400000 in
theorem isSize_any (n : Int) (w : World) :
    Calls Tryz.prog 116 #[.int .i64 n] w fun e w' => e = .returned (.bool (szB n)) ∧ w = w' := by
  by_cases h1 : n = 1
  · subst h1
    go_enter Tryz.func116, Tryz.ntmps116
    go_wp2
    go_ret
    exact ⟨rfl, rfl⟩
  · by_cases h2 : n = 2
    · subst h2
      go_enter Tryz.func116, Tryz.ntmps116
      go_wp2
      go_ret
      exact ⟨rfl, rfl⟩
    · by_cases h4 : n = 4
      · subst h4
        go_enter Tryz.func116, Tryz.ntmps116
        go_wp2
        go_ret
        exact ⟨rfl, rfl⟩
      · have e1 : (n == 1) = false := beq_eq_false_iff_ne.2 h1
        have e2 : (n == 2) = false := beq_eq_false_iff_ne.2 h2
        have e4 : (n == 4) = false := beq_eq_false_iff_ne.2 h4
        have hs : szB n = false := by simp [szB, h1, h2, h4]
        have HS : Hid (szB n = false) := hs
        clear hs h1 h2 h4
        go_enter Tryz.func116, Tryz.ntmps116
        go_wp2
        go_ret
        exact ⟨ret_bool HS.out.symm, rfl⟩

set_option maxHeartbeats 400000 in
theorem read_any (s : ByteArray) (w : World) :
    Calls Tryz.prog 120 #[.string s] w fun r w' => r = .returned (.pointer (some ⟨w.heap.size, 0, none⟩)) ∧ w' = w.alloc (.cells #[.string s, .int .i64 0] 188) := by
  go_enter Tryz.func120, Tryz.ntmps120
  go_wp2
  go_ret
  exact ⟨rfl, rfl⟩

set_option maxHeartbeats 400000 in
theorem fail_ok (b : Nat) (s : ByteArray) (n : Int) (w : World) (h : Rd b s 0 w) :
    Calls Tryz.prog 141 #[.pointer (some ⟨b, 0, none⟩), .int .i64 n] w fun r w' => r = .returned (.tuple #[]) ∧ w' = w.setCell ⟨b, 1, none⟩ (.int .i64 n) := by
  have c0 := h.c0; have c1 := h.c1; have f0 := h.f0; have f1 := h.f1; have lt := h.lt
  clear h
  go_enter Tryz.func141, Tryz.ntmps141
  go_wp2
  go_end0
  exact ⟨rfl, rfl⟩

set_option maxHeartbeats 400000 in
theorem fail_no (b : Nat) (s : ByteArray) (e n : Int) (w : World) (h : Rd b s e w) (he : e ≠ 0) :
    Calls Tryz.prog 141 #[.pointer (some ⟨b, 0, none⟩), .int .i64 n] w fun r w' => r = .returned (.tuple #[]) ∧ w = w' := by
  have c0 := h.c0; have c1 := h.c1; have f0 := h.f0; have f1 := h.f1; have lt := h.lt
  clear h
  have e1 : (e == 0) = false := beq_eq_false_iff_ne.2 he
  clear he
  go_enter Tryz.func141, Tryz.ntmps141
  go_wp2
  go_end0
  exact ⟨rfl, rfl⟩

/-- What Bytes(n) answers, what is left, and the error behind it. -/
def rdBytes (s : ByteArray) (e n : Int) : ByteArray × ByteArray × Int :=
  if e ≠ 0 then (ByteArray.empty, s, e) else if n < 0 then (ByteArray.empty, s, 1) else if (s.size : Int) < n then (ByteArray.empty, s, 10) else (s.extract 0 n.toNat, s.extract n.toNat s.size, 0)

set_option maxHeartbeats 400000 in
theorem bytes_any (b : Nat) (s : ByteArray) (e n : Int) (w : World) (h : Rd b s e w) :
    Calls Tryz.prog 121 #[.pointer (some ⟨b, 0, none⟩), .int .i64 n] w fun r w' => r = .returned (.string (rdBytes s e n).1) ∧ Rd b (rdBytes s e n).2.1 (rdBytes s e n).2.2 w' ∧ Only b w w' := by
  have c0 := h.c0; have c1 := h.c1; have f0 := h.f0; have f1 := h.f1; have lt := h.lt; have sz := h.sz
  have H : Hid (Rd b s e w) := h
  clear h
  by_cases he : e = 0
  · subst he
    by_cases hn : n < 0
    · have E : Hid (rdBytes s 0 n = (ByteArray.empty, s, 1)) := by simp [Hid, rdBytes, hn]
      go_enter Tryz.func121, Tryz.ntmps121
      go_wp2_with (go_at_call 141; refine (fail_ok b s _ _ H.out).mono ?_; rintro e w' ⟨rfl, rfl⟩)
      go_ret
      rw [E.out]
      exact ⟨rfl, H.out.set1 _, Only.setCell _ _ _ _⟩
    · by_cases hl : (s.size : Int) < n
      · have E : Hid (rdBytes s 0 n = (ByteArray.empty, s, 10)) := by simp [Hid, rdBytes, hn, hl]
        go_enter Tryz.func121, Tryz.ntmps121
        go_wp2_with (go_at_call 141; refine (fail_ok b s _ _ H.out).mono ?_; rintro e w' ⟨rfl, rfl⟩)
        go_ret
        rw [E.out]
        exact ⟨rfl, H.out.set1 _, Only.setCell _ _ _ _⟩
      · have E : Hid (rdBytes s 0 n = (s.extract 0 n.toNat, s.extract n.toNat s.size, 0)) := by simp [Hid, rdBytes, hn, hl]
        obtain ⟨m, rfl⟩ := Int.eq_ofNat_of_zero_le (Int.not_lt.1 hn)
        have hm : m ≤ s.size := by omega
        go_enter Tryz.func121, Tryz.ntmps121
        go_wp2
        go_ret
        rw [E.out]
        refine ⟨?_, ?_, ?_⟩
        · rfl
        · exact H.out.set0 _ (by simp; omega)
        · exact Only.setCell _ _ _ _
  · have E : Hid (rdBytes s e n = (ByteArray.empty, s, e)) := by simp [Hid, rdBytes, he]
    have e1 : (e != 0) = true := by rw [bne_iff_ne]; exact he
    clear he
    go_enter Tryz.func121, Tryz.ntmps121
    go_wp2
    go_ret
    rw [E.out]
    exact ⟨rfl, H.out, Only.refl _ _⟩
end

/-! CdMid -/
section
open Go.RowKit

theorem or_i64_nat (a b : Nat) (ha : a < 4611686018427387904) (hb : b < 4611686018427387904) : bits .or .i64 (a : Int) (b : Int) = ((a ||| b : Nat) : Int) := by
  have hx : a ||| b < 2 ^ 62 := Nat.or_lt_two_pow (by omega) (by omega)
  show IntKind.i64.wrap ((BitVec.ofInt 64 (a : Int) ||| BitVec.ofInt 64 (b : Int)).toNat : Int) = _
  rw [BitVec.toNat_or, ofInt_u64 a (by omega), ofInt_u64 b (by omega), IntKind.wrap_i64]
  omega
theorem or_byte (m c : Nat) (hm : m < 16777216) (hc : c < 256) : Value.int .i64 (bits .or .i64 ((m : Int) * 256) (wrap64 (c : Int))) = .int .i64 ((m * 256 + c : Nat) : Int) := by
  have e1 : wrap64 (c : Int) = (c : Int) := by unfold wrap64; omega
  have e2 : ((m : Int) * 256) = ((m * 256 : Nat) : Int) := by omega
  rw [e1, e2, or_i64_nat _ _ (by omega) (by omega), nat_join 8 _ _ (by omega) (by omega)]

/-- What End() answers. -/
def rdEnd (s : ByteArray) (e : Int) : Int := if e ≠ 0 then e else if s.size = 0 then 0 else 11

/-- What Int(size) answers, what is left, and the error behind it. -/
def rdInt (s : ByteArray) (e n : Int) : Int × ByteArray × Int :=
  if szB n = false then (0, s, if e ≠ 0 then e else 1) else ((beNat (rdBytes s e n).1.data.toList : Int), (rdBytes s e n).2.1, (rdBytes s e n).2.2)

theorem rdBytes_le4 (s : ByteArray) (e n : Int) (h : szB n = true) : (rdBytes s e n).1.size ≤ 4 := by
  have : n = 1 ∨ n = 2 ∨ n = 4 := by simpa [szB] using h
  unfold rdBytes
  split
  · simp
  · split
    · simp
    · split
      · simp
      · simp; omega

set_option maxHeartbeats 400000 in
theorem int_any (b : Nat) (s : ByteArray) (e n : Int) (w : World) (h : Rd b s e w) :
    Calls Tryz.prog 122 #[.pointer (some ⟨b, 0, none⟩), .int .i64 n] w fun r w' => r = .returned (.int .i64 (rdInt s e n).1) ∧ Rd b (rdInt s e n).2.1 (rdInt s e n).2.2 w' ∧ Only b w w' := by
  have H : Hid (Rd b s e w) := h
  have sz := h.sz
  clear h
  cases hz : szB n
  · by_cases he : e = 0
    · subst he
      have E : Hid (rdInt s 0 n = (0, s, 1)) := by simp [Hid, rdInt, hz]
      go_enter Tryz.func122, Tryz.ntmps122
      go_wp2_with (first | (go_at_call 116; refine (isSize_any _ _).mono ?_; rintro e w' ⟨rfl, rfl⟩) | (go_at_call 141; refine (fail_ok b s _ _ H.out).mono ?_; rintro e w' ⟨rfl, rfl⟩))
      go_ret
      rw [E.out]
      exact ⟨rfl, H.out.set1 _, Only.setCell _ _ _ _⟩
    · have E : Hid (rdInt s e n = (0, s, e)) := by simp [Hid, rdInt, hz, he]
      go_enter Tryz.func122, Tryz.ntmps122
      go_wp2_with (first | (go_at_call 116; refine (isSize_any _ _).mono ?_; rintro e w' ⟨rfl, rfl⟩) | (go_at_call 141; refine (fail_no b s _ _ _ H.out he).mono ?_; rintro e w' ⟨rfl, rfl⟩))
      go_ret
      rw [E.out]
      exact ⟨rfl, H.out, Only.refl _ _⟩
  · have E : Hid (rdInt s e n = ((beNat (rdBytes s e n).1.data.toList : Int), (rdBytes s e n).2.1, (rdBytes s e n).2.2)) := by simp [Hid, rdInt, hz]
    have h4 := rdBytes_le4 s e n hz
    have C := bytes_any b s e n w H.out
    revert C E h4
    generalize rdBytes s e n = t
    obtain ⟨x, s', e'⟩ := t
    intro E h4 C0
    have C : Hid _ := C0
    clear C0
    simp only at h4
    go_enter Tryz.func122, Tryz.ntmps122
    go_wp2_with (first | (go_at_call 116; refine (isSize_any _ _).mono ?_; rintro e w' ⟨rfl, rfl⟩) | (go_at_call 121; refine Calls.mono C.out ?_; rintro e w' ⟨rfl, hr, ho⟩))
    go_loop [6, 18] (fun v i => ∃ k : Nat, k ≤ x.size ∧ i = .int .i64 k ∧ v = .int .i64 (beNat (x.data.toList.take k))) (fun _ i => x.size - (intOf i).toNat)
    case atStart => exact ⟨0, Nat.zero_le _, rfl, rfl⟩
    case round =>
      obtain ⟨k, hk, rfl, rfl⟩ := hrel
      by_cases hlt : k < x.size
      · have T : Hid (beNat (x.data.toList.take (k + 1)) = beNat (x.data.toList.take k) * 256 + x[k].toNat) := beNat_take x.data.toList k (by simpa using hlt)
        have B := beNat_take_lt x.data.toList k (by omega)
        go_wp2
        have C8 : x[k].toNat < 256 := UInt8.toNat_lt _
        refine ⟨⟨k + 1, by omega, by go_num, ?_⟩, by simp [intOf]; omega⟩
        rw [T.out, or_byte _ _ B C8]
      · have T : Hid (x.data.toList.take k = x.data.toList) := List.take_of_length_le (by simp; omega)
        go_wp2
        go_ret
        rw [E.out]
        exact ⟨ret_int (by rw [T.out]), hr, ho⟩
end

/-! CdPut -/
section
open Go.RowKit

/-- Whether a number can be put into so many bytes. -/
def putB (size n : Int) : Bool := szB size && decide (0 ≤ n ∧ n < ((256 ^ size.toNat : Nat) : Int))
/-- The bytes that Put answers. -/
def putS (size n : Int) : List UInt8 := if putB size n = true then beBytes size.toNat n.toNat else []
/-- The error that Put answers. -/
def putE (size n : Int) : Int := if putB size n = true then 0 else 1

set_option maxHeartbeats 400000 in
theorem put_size (size n : Int) (w : World) (h : szB size = false) :
    Calls Tryz.prog 87 #[.int .i64 size, .int .i64 n] w fun r w' => r = .returned (.tuple #[.string ⟨#[]⟩, .int .i64 1]) ∧ w = w' := by
  go_enter Tryz.func87, Tryz.ntmps87
  go_wp2_with (go_at_call 116; refine (isSize_any _ _).mono ?_; rintro e w' ⟨rfl, rfl⟩)
  go_ret2
  exact ⟨rfl, rfl⟩

set_option maxHeartbeats 400000 in
theorem put_neg (size n : Int) (w : World) (h : szB size = true) (hn : n < 0) :
    Calls Tryz.prog 87 #[.int .i64 size, .int .i64 n] w fun r w' => r = .returned (.tuple #[.string ⟨#[]⟩, .int .i64 1]) ∧ w = w' := by
  go_enter Tryz.func87, Tryz.ntmps87
  go_wp2_with (go_at_call 116; refine (isSize_any _ _).mono ?_; rintro e w' ⟨rfl, rfl⟩)
  go_ret2
  exact ⟨rfl, rfl⟩

set_option maxHeartbeats 400000 in
theorem put_big1 (n : Int) (w : World) (hn : ¬ n < 0) (hb : (n / 256 != 0) = true) :
    Calls Tryz.prog 87 #[.int .i64 1, .int .i64 n] w fun r w' => r = .returned (.tuple #[.string ⟨#[]⟩, .int .i64 1]) ∧ w = w' := by
  have h : szB 1 = true := rfl
  go_enter Tryz.func87, Tryz.ntmps87
  go_wp2_with (go_at_call 116; refine (isSize_any _ _).mono ?_; rintro e w' ⟨rfl, rfl⟩)
  go_ret2
  exact ⟨rfl, rfl⟩

set_option maxHeartbeats 400000 in
theorem put_big2 (n : Int) (w : World) (hn : ¬ n < 0) (hb : (n / 65536 != 0) = true) :
    Calls Tryz.prog 87 #[.int .i64 2, .int .i64 n] w fun r w' => r = .returned (.tuple #[.string ⟨#[]⟩, .int .i64 1]) ∧ w = w' := by
  have h : szB 2 = true := rfl
  go_enter Tryz.func87, Tryz.ntmps87
  go_wp2_with (go_at_call 116; refine (isSize_any _ _).mono ?_; rintro e w' ⟨rfl, rfl⟩)
  go_ret2
  exact ⟨rfl, rfl⟩

set_option maxHeartbeats 400000 in
theorem put_big4 (n : Int) (w : World) (hn : ¬ n < 0) (hb : (n / 4294967296 != 0) = true) :
    Calls Tryz.prog 87 #[.int .i64 4, .int .i64 n] w fun r w' => r = .returned (.tuple #[.string ⟨#[]⟩, .int .i64 1]) ∧ w = w' := by
  have h : szB 4 = true := rfl
  go_enter Tryz.func87, Tryz.ntmps87
  go_wp2_with (go_at_call 116; refine (isSize_any _ _).mono ?_; rintro e w' ⟨rfl, rfl⟩)
  go_ret2
  exact ⟨rfl, rfl⟩

theorem conv_new (l : List UInt8) (cs : Array Value) (w : World) (m c : Nat) (hcs : cs = (l.map fun b => Value.int .u8 (b.toNat : Int)).toArray) (hm : m = l.length) :
    Sem.run Tryz.prog (convert 66 9 (.slice (some ⟨w.heap.size, 0, none⟩) m c)) (w.alloc (.cells cs 5)) = .ok (.string ⟨l.toArray⟩) (w.alloc (.cells cs 5)) := by
  subst hm
  refine run_convert_bytes_back _ 66 9 5 _ c l Tryz.underlying66 Tryz.underlying5 Tryz.underlying9 (fun j hj => ?_)
  have e : (⟨w.heap.size, 0, none⟩ : Addr).add j = ⟨w.heap.size, j, none⟩ := by simp [Addr.add]; intro h; omega
  rw [e, World.cell?_alloc_at cs 5 _ j rfl, hcs]
  simp [List.getElem?_eq_getElem hj]

set_option maxRecDepth 100000 in
set_option maxHeartbeats 1000000 in
theorem put1 (n : Nat) (w : World) (hn : n < 256) :
    Calls Tryz.prog 87 #[.int .i64 1, .int .i64 n] w fun r w' => r = .returned (.tuple #[.string ⟨(beBytes 1 n).toArray⟩, .int .i64 0]) ∧ Below w.heap.size w w' := by
  have h : szB 1 = true := rfl
  have hb : (((n : Int) / 256) != 0) = false := by simp; omega
  have hn0 : ¬ (n : Int) < 0 := by omega
  have hmk : ∀ w, (Instr.makeSlice 66 (.int .i64 1) (.int .i64 1)).run Tryz.prog w = .ok (.slice (some ⟨w.heap.size, 0, none⟩) 1 1) (w.alloc (.cells #[.int .u8 0] 5)) := fun _ => by kernel_rfl
  have hcv := conv_new (beBytes 1 n) #[.int .u8 (n : Int)] w 1 1 (by simp [beBytes]; omega) (beBytes_length _ _).symm
  go_enter Tryz.func87, Tryz.ntmps87
  go_wp2_with (go_at_call 116; refine (isSize_any _ _).mono ?_; rintro e w' ⟨rfl, rfl⟩)
  refine wp_loop_rounds 2 ?_
  repeat any_goals (rw [rounds_succ]; go_wp2)
  go_ret2
  exact ⟨rfl, (Below.refl _ _).alloc (Nat.le_refl _) _⟩

set_option maxRecDepth 100000 in
set_option maxHeartbeats 1000000 in
theorem put2 (n : Nat) (w : World) (hn : n < 65536) :
    Calls Tryz.prog 87 #[.int .i64 2, .int .i64 n] w fun r w' => r = .returned (.tuple #[.string ⟨(beBytes 2 n).toArray⟩, .int .i64 0]) ∧ Below w.heap.size w w' := by
  have h : szB 2 = true := rfl
  have hb : (((n : Int) / 65536) != 0) = false := by simp; omega
  have hn0 : ¬ (n : Int) < 0 := by omega
  have hmk : ∀ w, (Instr.makeSlice 66 (.int .i64 2) (.int .i64 2)).run Tryz.prog w = .ok (.slice (some ⟨w.heap.size, 0, none⟩) 2 2) (w.alloc (.cells #[.int .u8 0, .int .u8 0] 5)) := fun _ => by kernel_rfl
  have hcv := conv_new (beBytes 2 n) #[.int .u8 ((n : Int) / 256), .int .u8 ((n : Int) % 256)] w 2 2 (by simp [beBytes]; omega) (beBytes_length _ _).symm
  go_enter Tryz.func87, Tryz.ntmps87
  go_wp2_with (go_at_call 116; refine (isSize_any _ _).mono ?_; rintro e w' ⟨rfl, rfl⟩)
  refine wp_loop_rounds 3 ?_
  repeat any_goals (rw [rounds_succ]; go_wp2)
  go_ret2
  exact ⟨rfl, (Below.refl _ _).alloc (Nat.le_refl _) _⟩

set_option maxRecDepth 100000 in
set_option maxHeartbeats 1000000 in
theorem put4 (n : Nat) (w : World) (hn : n < 4294967296) :
    Calls Tryz.prog 87 #[.int .i64 4, .int .i64 n] w fun r w' => r = .returned (.tuple #[.string ⟨(beBytes 4 n).toArray⟩, .int .i64 0]) ∧ Below w.heap.size w w' := by
  have h : szB 4 = true := rfl
  have hb : (((n : Int) / 4294967296) != 0) = false := by simp; omega
  have hn0 : ¬ (n : Int) < 0 := by omega
  have hmk : ∀ w, (Instr.makeSlice 66 (.int .i64 4) (.int .i64 4)).run Tryz.prog w = .ok (.slice (some ⟨w.heap.size, 0, none⟩) 4 4) (w.alloc (.cells #[.int .u8 0, .int .u8 0, .int .u8 0, .int .u8 0] 5)) := fun _ => by kernel_rfl
  have hcv := conv_new (beBytes 4 n) #[.int .u8 ((n : Int) / 16777216), .int .u8 ((n : Int) / 65536 % 256), .int .u8 ((n : Int) / 256 % 256), .int .u8 ((n : Int) % 256)] w 4 4 (by simp [beBytes]; omega) (beBytes_length _ _).symm
  go_enter Tryz.func87, Tryz.ntmps87
  go_wp2_with (go_at_call 116; refine (isSize_any _ _).mono ?_; rintro e w' ⟨rfl, rfl⟩)
  refine wp_loop_rounds 5 ?_
  repeat any_goals (rw [rounds_succ]; go_wp2)
  go_ret2
  exact ⟨rfl, (Below.refl _ _).alloc (Nat.le_refl _) _⟩

theorem put_no {size n : Int} {r : Ending} {w w' : World} (hp : putB size n = false) (h : r = .returned (.tuple #[.string ⟨#[]⟩, .int .i64 1]) ∧ w = w') :
    r = .returned (.tuple #[.string ⟨(putS size n).toArray⟩, .int .i64 (putE size n)]) ∧ Below w.heap.size w w' := by
  obtain ⟨rfl, rfl⟩ := h
  simp [putS, putE, hp, Below.refl]
theorem put_yes {size n : Int} {r : Ending} {w w' : World} (k m : Nat) (hk : size = k) (hm : n = m) (hp : putB size n = true) (h : r = .returned (.tuple #[.string ⟨(beBytes k m).toArray⟩, .int .i64 0]) ∧ Below w.heap.size w w') :
    r = .returned (.tuple #[.string ⟨(putS size n).toArray⟩, .int .i64 (putE size n)]) ∧ Below w.heap.size w w' := by
  obtain ⟨rfl, hb⟩ := h
  subst hk hm
  simp [putS, putE, hp, hb]

theorem put_any (size n : Int) (w : World) :
    Calls Tryz.prog 87 #[.int .i64 size, .int .i64 n] w fun r w' => r = .returned (.tuple #[.string ⟨(putS size n).toArray⟩, .int .i64 (putE size n)]) ∧ Below w.heap.size w w' := by
  cases hz : szB size
  · exact (put_size size n w hz).mono fun r w' h => put_no (by simp [putB, hz]) h
  · by_cases hn : n < 0
    · exact (put_neg size n w hz hn).mono fun r w' h => put_no (by simp [putB]; intro _ _; omega) h
    · obtain ⟨m, rfl⟩ := Int.eq_ofNat_of_zero_le (Int.not_lt.1 hn)
      have hs : size = 1 ∨ size = 2 ∨ size = 4 := by simpa [szB] using hz
      rcases hs with rfl | rfl | rfl
      · by_cases hb : m < 256
        · exact (put1 m w hb).mono fun r w' h => put_yes 1 m rfl rfl (by simp [putB, hz]; omega) h
        · exact (put_big1 m w hn (by rw [bne_iff_ne]; omega)).mono fun r w' h => put_no (by simp [putB]; omega) h
      · by_cases hb : m < 65536
        · exact (put2 m w hb).mono fun r w' h => put_yes 2 m rfl rfl (by simp [putB, hz]; omega) h
        · exact (put_big2 m w hn (by rw [bne_iff_ne]; omega)).mono fun r w' h => put_no (by simp [putB]; omega) h
      · by_cases hb : m < 4294967296
        · exact (put4 m w hb).mono fun r w' h => put_yes 4 m rfl rfl (by simp [putB, hz]; omega) h
        · exact (put_big4 m w hn (by rw [bne_iff_ne]; omega)).mono fun r w' h => put_no (by simp [putB]; omega) h
end

/-! CdJoin -/
section
open Go.RowKit

/-- All, one behind the other. -/
def cat (xs : List ByteArray) : List UInt8 := (xs.map (·.data.toList)).flatten

theorem join_cat (xs : List ByteArray) : Lib.join (xs.map (·.data.toList)) (ByteArray.data ⟨#[]⟩).toList = cat xs := by
  cases xs with
  | nil => rfl
  | cons x r =>
    rw [List.map_cons, Lib.join_cons]
    simp [cat, Lib.joinTail]
    rfl

set_option maxHeartbeats 400000 in
theorem join_any (bk o c m : Nat) (xs : List ByteArray) (w : World) (hcells : ∀ (j : Nat) x, xs[j]? = some x → w.cell? ⟨bk, o + j, none⟩ = some (.string x)) (hbk : bk < w.heap.size) (hm : xs.length = m) (hN : xs.length ≤ 140737488355328) (hcap : xs.length ≤ c) (hlen : (cat xs).length ≤ 140737488355328) :
    Calls Tryz.prog 88 #[.slice (some ⟨bk, o, none⟩) m c] w fun r w' => r = .returned (.string ⟨(cat xs).toArray⟩) ∧ Below w.heap.size w w' := by
  subst hm
  have C : Hid _ := Tryz.strings_Join bk o c xs ⟨#[]⟩ w hcells hbk hN hcap (by rw [join_cat]; exact hlen)
  rw [join_cat] at C
  clear hcells hlen
  go_enter Tryz.func88, Tryz.ntmps88
  go_wp2_with (go_at_call 117; refine Calls.mono C.out ?_; rintro e w' ⟨rfl, hb⟩)
  go_ret
  exact ⟨rfl, hb⟩

set_option maxHeartbeats 400000 in
theorem join_none (a : Option Addr) (c : Nat) (w : World) :
    Calls Tryz.prog 88 #[.slice a 0 c] w fun r w' => r = .returned (.string ⟨#[]⟩) ∧ w = w' := by
  go_enter Tryz.func88, Tryz.ntmps88
  go_wp2_with (go_at_call 117; refine (Tryz.strings_Join_none a c _ w).mono ?_; rintro e w' ⟨rfl, rfl⟩)
  go_ret
  exact ⟨rfl, rfl⟩

theorem join2 (x y : ByteArray) (w : World) (hl : x.size + y.size ≤ 140737488355328) :
    Calls Tryz.prog 88 #[.slice (some ⟨w.heap.size, 0, none⟩) 2 2] (w.alloc (.cells #[.string x, .string y] 9)) fun r w' => r = .returned (.string ⟨(x.data.toList ++ y.data.toList).toArray⟩) ∧ Below w.heap.size w w' := by
  have hc : cat [x, y] = x.data.toList ++ y.data.toList := by simp [cat]
  have h := join_any w.heap.size 0 2 2 [x, y] (w.alloc (.cells #[.string x, .string y] 9)) (fun j z hj => ?_) (by simp) rfl (by simp) (by simp) (by rw [hc]; simpa using hl)
  · rw [hc] at h
    exact h.mono fun r w' ⟨a, b⟩ => ⟨a, ((Below.refl _ _).alloc (Nat.le_refl _) _).trans (b.mono (by simp))⟩
  · rw [World.cell?_alloc_at _ 9 _ (0 + j) rfl, Nat.zero_add]
    match j, hj with
    | 0, hj => simp at hj ⊢; exact hj
    | 1, hj => simp at hj ⊢; exact hj

theorem join3 (x y z : ByteArray) (w : World) (hl : x.size + (y.size + z.size) ≤ 140737488355328) :
    Calls Tryz.prog 88 #[.slice (some ⟨w.heap.size, 0, none⟩) 3 3] (w.alloc (.cells #[.string x, .string y, .string z] 9)) fun r w' => r = .returned (.string ⟨(x.data.toList ++ (y.data.toList ++ z.data.toList)).toArray⟩) ∧ Below w.heap.size w w' := by
  have hc : cat [x, y, z] = x.data.toList ++ (y.data.toList ++ z.data.toList) := by simp [cat]
  have h := join_any w.heap.size 0 3 3 [x, y, z] (w.alloc (.cells #[.string x, .string y, .string z] 9)) (fun j u hj => ?_) (by simp) rfl (by simp) (by simp) (by rw [hc]; simpa using hl)
  · rw [hc] at h
    exact h.mono fun r w' ⟨a, b⟩ => ⟨a, ((Below.refl _ _).alloc (Nat.le_refl _) _).trans (b.mono (by simp))⟩
  · rw [World.cell?_alloc_at _ 9 _ (0 + j) rfl, Nat.zero_add]
    match j, hj with
    | 0, hj => simp at hj ⊢; exact hj
    | 1, hj => simp at hj ⊢; exact hj
    | 2, hj => simp at hj ⊢; exact hj
end

/-! CdLaws -/
section
open Go.RowKit

theorem ba_eta (s : ByteArray) : s = ⟨s.data.toList.toArray⟩ := by cases s; simp
theorem ba_size (l : List UInt8) : (⟨l.toArray⟩ : ByteArray).size = l.length := by simp [ByteArray.size]
theorem ba_ext {s t : ByteArray} (h : s.data.toList = t.data.toList) : s = t := ByteArray.ext (Array.toList_inj.1 h)
theorem ba_head (l r : List UInt8) : (⟨(l ++ r).toArray⟩ : ByteArray).extract 0 l.length = ⟨l.toArray⟩ := by
  apply ba_ext; rw [Lib.extract_data]; simp
theorem ba_tail (l r : List UInt8) : (⟨(l ++ r).toArray⟩ : ByteArray).extract l.length (l.length + r.length) = ⟨r.toArray⟩ := by
  apply ba_ext; rw [Lib.extract_data]; simp

theorem rdBytes_app (l r : List UInt8) (n : Int) (h : n = l.length) : rdBytes ⟨(l ++ r).toArray⟩ 0 n = (⟨l.toArray⟩, ⟨r.toArray⟩, 0) := by
  subst h
  have h1 : ¬ (l.length : Int) < 0 := by omega
  have h2 : ¬ (((⟨(l ++ r).toArray⟩ : ByteArray).size : Int) < l.length) := by rw [ba_size, List.length_append]; omega
  have h3 : (⟨(l ++ r).toArray⟩ : ByteArray).size = l.length + r.length := by rw [ba_size, List.length_append]
  unfold rdBytes
  rw [if_neg (by simp), if_neg h1, if_neg h2, Int.toNat_natCast, h3, ba_head, ba_tail]

theorem rdInt_app (l r : List UInt8) (n : Int) (h : n = l.length) (hz : szB n = true) : rdInt ⟨(l ++ r).toArray⟩ 0 n = ((beNat l : Int), ⟨r.toArray⟩, 0) := by
  unfold rdInt
  rw [rdBytes_app l r n h]
  simp [hz]

/-- Bytes that were read without an error: they stood at the beginning. -/
theorem rdBytes_inv (s : ByteArray) (e n : Int) (h : (rdBytes s e n).2.2 = 0) :
    e = 0 ∧ ∃ l r : List UInt8, s = ⟨(l ++ r).toArray⟩ ∧ n = (l.length : Int) ∧ rdBytes s e n = (⟨l.toArray⟩, ⟨r.toArray⟩, 0) := by
  by_cases he : e = 0
  · refine ⟨he, ?_⟩
    subst he
    by_cases h1 : n < 0
    · simp [rdBytes, h1] at h
    · by_cases h2 : (s.size : Int) < n
      · simp [rdBytes, h1, h2] at h
      · obtain ⟨k, rfl⟩ := Int.eq_ofNat_of_zero_le (Int.not_lt.1 h1)
        have hk : k ≤ s.data.toList.length := by
          have := Lib.size_eq s
          omega
        have hl : (s.data.toList.take k).length = k := by simp at hk ⊢; omega
        have hs : s = ⟨(s.data.toList.take k ++ s.data.toList.drop k).toArray⟩ := by rw [List.take_append_drop]
        refine ⟨s.data.toList.take k, s.data.toList.drop k, hs, by rw [hl], ?_⟩
        have := rdBytes_app (s.data.toList.take k) (s.data.toList.drop k) (k : Int) (by rw [hl])
        rw [← hs] at this
        exact this
  · simp [rdBytes, he] at h

theorem rdInt_inv (s : ByteArray) (e n : Int) (h : (rdInt s e n).2.2 = 0) :
    e = 0 ∧ szB n = true ∧ ∃ l r : List UInt8, s = ⟨(l ++ r).toArray⟩ ∧ n = (l.length : Int) ∧ rdInt s e n = ((beNat l : Int), ⟨r.toArray⟩, 0) := by
  cases hz : szB n
  · exfalso
    by_cases he : e = 0 <;> simp [rdInt, hz, he] at h
  · have h' : (rdBytes s e n).2.2 = 0 := by simpa [rdInt, hz] using h
    obtain ⟨he, l, r, hs, hn, _⟩ := rdBytes_inv s e n h'
    subst he
    refine ⟨rfl, rfl, l, r, hs, hn, ?_⟩
    rw [hs]
    exact rdInt_app l r n hn hz

theorem beNat_foldl (x : List UInt8) : ∀ i : Nat, x.foldl (fun a c => a * 256 + c.toNat) i = i * 256 ^ x.length + beNat x := by
  induction x with
  | nil => intro i; simp [beNat]
  | cons a x ih =>
    intro i
    have e : beNat (a :: x) = a.toNat * 256 ^ x.length + beNat x := by rw [beNat, List.foldl_cons, ih]; simp
    rw [List.foldl_cons, ih, e, List.length_cons, Nat.pow_succ, Nat.add_mul, Nat.mul_assoc, Nat.mul_comm 256, Nat.add_assoc]
theorem beNat_cons (a : UInt8) (x : List UInt8) : beNat (a :: x) = a.toNat * 256 ^ x.length + beNat x := by
  rw [beNat, List.foldl_cons, beNat_foldl]; simp

theorem mul_lt_step (a b p x y : Nat) (h : a < b) (hx : x < p) : a * p + x < b * p + y := by
  have h1 : (a + 1) * p ≤ b * p := Nat.mul_le_mul_right p h
  rw [Nat.add_mul, Nat.one_mul] at h1
  omega

theorem bytesLess_nat (x : List UInt8) : ∀ y : List UInt8, x.length = y.length → Op.bytesLess x y = decide (beNat x < beNat y) := by
  induction x with
  | nil => intro y h; rw [List.length_eq_zero_iff.1 h.symm]; rfl
  | cons a x ih =>
    intro y h
    cases y with
    | nil => simp at h
    | cons b y =>
      have hl : x.length = y.length := by simpa using h
      have hx := beNat_lt x
      have hy := beNat_lt y
      rw [Op.bytesLess, ih y hl, beNat_cons, beNat_cons, hl]
      rw [hl] at hx
      rcases Nat.lt_trichotomy a.toNat b.toNat with c | c | c
      · have e1 : a < b := UInt8.lt_iff_toNat_lt.2 c
        have e2 := mul_lt_step a.toNat b.toNat _ (beNat x) (beNat y) c hx
        simp [e1, e2]
      · have e1 : a = b := UInt8.toNat_inj.1 c
        subst e1
        simp
      · have e1 : ¬ a < b := by rw [UInt8.lt_iff_toNat_lt]; omega
        have e2 : a ≠ b := by intro e; subst e; omega
        have e3 := mul_lt_step b.toNat a.toNat _ (beNat y) (beNat x) c hy
        have e4 : ¬ (a.toNat * 256 ^ y.length + beNat x < b.toNat * 256 ^ y.length + beNat y) := Nat.not_lt.2 (Nat.le_of_lt e3)
        rw [decide_eq_false e4]
        simp [e1, e2]

theorem less_put (k n m : Nat) (hn : n < 256 ^ k) (hm : m < 256 ^ k) : Op.bytesLess (beBytes k n) (beBytes k m) = decide (n < m) := by
  rw [bytesLess_nat _ _ (by rw [beBytes_length, beBytes_length]), beNat_bytes k n hn, beNat_bytes k m hm]
theorem eq_put (k n m : Nat) (hn : n < 256 ^ k) (hm : m < 256 ^ k) : (beBytes k n == beBytes k m) = decide (n = m) := by
  by_cases h : n = m
  · subst h; simp
  · simp [h]; intro e; apply h; rw [← beNat_bytes k n hn, ← beNat_bytes k m hm, e]
end

/-! CdRefPut -/
section
open Go.RowKit

theorem beBytes_front (k : Nat) : ∀ n, beBytes (k + 1) n = UInt8.ofNat (n / 256 ^ k % 256) :: beBytes k n := by
  induction k with
  | zero => intro n; simp [beBytes]
  | succ k ih =>
    intro n
    rw [beBytes, ih (n / 256), Nat.div_div_eq_div_mul, Nat.mul_comm, ← Nat.pow_succ]
    rw [beBytes]
    simp

/-- Whether a number fits into z bytes, as the document's Put reckons it. -/
def qok (z N : Nat) : Bool := ((N / 256 ^ z : Nat) : Int) == 0
theorem ba_cons (c : UInt8) (l : List UInt8) : (⟨#[c]⟩ : ByteArray) ++ ⟨l.toArray⟩ = ⟨(c :: l).toArray⟩ := by
  apply ba_ext
  rw [ByteArray.data_append]
  simp
theorem ret_put (s : ByteArray) (a b : Bool) (h : a = b) : Ending.returned (.tuple #[.string s, .bool a]) = .returned (.tuple #[.string s, .bool b]) := by rw [h]

set_option maxRecDepth 100000 in
set_option maxHeartbeats 1000000 in
theorem qput4 (N : Nat) (w : World) (hN : (N : Int) ≤ 9223372036854775807) :
    Calls Tryz.prog 107 #[.int .i64 4, .int .i64 N] w fun r w' => r = .returned (.tuple #[.string ⟨(beBytes 4 N).toArray⟩, .bool (qok 4 N)]) ∧ Below w.heap.size w w' := by
  have hN0 : ¬ (N : Int) < 0 := by omega
  go_enter Tryz.func107, Tryz.ntmps107
  go_wp2
  go_loopw [1, 6, 7] (fun n s i wr => ∃ (k M : Nat) (S : List UInt8), k ≤ 4 ∧ i = .int .i64 k ∧ n = .int .i64 M ∧ s = .string ⟨S.toArray⟩ ∧ (M : Int) ≤ 9223372036854775807 ∧ Hid (M = N / 256 ^ k) ∧ S.length ≤ 4 ∧ Hid (S = beBytes k N) ∧ Hid (Below w.heap.size w wr)) (fun _ _ i _ => 4 - (intOf i).toNat)
  case atStart => exact ⟨0, N, [], by omega, rfl, rfl, rfl, hN, by simp [Hid], by simp, rfl, Below.refl _ _⟩
  case round =>
    obtain ⟨k, M, S, hk, rfl, rfl, rfl, hM, eM, lS, eS, hb⟩ := hrel
    have hM0 : ¬ (M : Int) < 0 := by omega
    by_cases hlt : k < 4
    · have hcv := conv_new [UInt8.ofNat (M % 256)] #[.int .u8 ((M : Int) % 256)] wr 1 1 (by simp) rfl
      go_wp2
      refine ⟨⟨k + 1, M / 256, UInt8.ofNat (M % 256) :: S, by omega, by go_num, by go_num, ?_, by omega, ?_, ?_, ?_, ?_⟩, by simp [intOf]; omega⟩
      · exact congrArg Value.string (ba_cons _ S)
      · rw [Hid, eM.out, Nat.div_div_eq_div_mul, ← Nat.pow_succ]
      · have := beBytes_length k N
        rw [← eS.out] at this
        simp; omega
      · rw [Hid, beBytes_front, ← eM.out, ← eS.out]
      · exact hb.out.alloc hb.out.size _
    · have hk' : k = 4 := by omega
      subst hk'
      go_wp2
      go_ret2
      rw [← eS.out]
      exact ⟨ret_put _ _ _ (by rw [qok, eM.out]), hb.out⟩

set_option maxRecDepth 100000 in
set_option maxHeartbeats 1000000 in
theorem qput2 (N : Nat) (w : World) (hN : (N : Int) ≤ 9223372036854775807) :
    Calls Tryz.prog 107 #[.int .i64 2, .int .i64 N] w fun r w' => r = .returned (.tuple #[.string ⟨(beBytes 2 N).toArray⟩, .bool (qok 2 N)]) ∧ Below w.heap.size w w' := by
  have hN0 : ¬ (N : Int) < 0 := by omega
  go_enter Tryz.func107, Tryz.ntmps107
  go_wp2
  go_loopw [1, 6, 7] (fun n s i wr => ∃ (k M : Nat) (S : List UInt8), k ≤ 2 ∧ i = .int .i64 k ∧ n = .int .i64 M ∧ s = .string ⟨S.toArray⟩ ∧ (M : Int) ≤ 9223372036854775807 ∧ Hid (M = N / 256 ^ k) ∧ S.length ≤ 4 ∧ Hid (S = beBytes k N) ∧ Hid (Below w.heap.size w wr)) (fun _ _ i _ => 2 - (intOf i).toNat)
  case atStart => exact ⟨0, N, [], by omega, rfl, rfl, rfl, hN, by simp [Hid], by simp, rfl, Below.refl _ _⟩
  case round =>
    obtain ⟨k, M, S, hk, rfl, rfl, rfl, hM, eM, lS, eS, hb⟩ := hrel
    have hM0 : ¬ (M : Int) < 0 := by omega
    by_cases hlt : k < 2
    · have hcv := conv_new [UInt8.ofNat (M % 256)] #[.int .u8 ((M : Int) % 256)] wr 1 1 (by simp) rfl
      go_wp2
      refine ⟨⟨k + 1, M / 256, UInt8.ofNat (M % 256) :: S, by omega, by go_num, by go_num, ?_, by omega, ?_, ?_, ?_, ?_⟩, by simp [intOf]; omega⟩
      · exact congrArg Value.string (ba_cons _ S)
      · rw [Hid, eM.out, Nat.div_div_eq_div_mul, ← Nat.pow_succ]
      · have := beBytes_length k N
        rw [← eS.out] at this
        simp; omega
      · rw [Hid, beBytes_front, ← eM.out, ← eS.out]
      · exact hb.out.alloc hb.out.size _
    · have hk' : k = 2 := by omega
      subst hk'
      go_wp2
      go_ret2
      rw [← eS.out]
      exact ⟨ret_put _ _ _ (by rw [qok, eM.out]), hb.out⟩

set_option maxHeartbeats 400000 in
theorem qput_neg (n : Int) (w : World) (hn : n < 0) :
    Calls Tryz.prog 107 #[.int .i64 4, .int .i64 n] w fun r w' => r = .returned (.tuple #[.string ⟨#[]⟩, .bool false]) ∧ w = w' := by
  go_enter Tryz.func107, Tryz.ntmps107
  go_wp2
  go_ret2
  exact ⟨rfl, rfl⟩
end

/-! CrNums -/
section
/-- One of a byte's eight steps. -/
def bit1 (c : Nat) : Nat := if c % 2 = 1 then c / 2 ^^^ 3988292384 else c / 2
def bit4 (c : Nat) : Nat := bit1 (bit1 (bit1 (bit1 c)))
/-- All eight. -/
def bit8 (c : Nat) : Nat := bit4 (bit4 c)
/-- The check with one byte more. -/
def stepN (c b : Nat) : Nat := bit8 (c ^^^ b)
/-- The check with all these bytes more. -/
def foldN (c : Nat) (l : List UInt8) : Nat := l.foldl (fun c b => stepN c b.toNat) c
/-- The check of bytes. -/
def sumN (l : List UInt8) : Nat := foldN 4294967295 l ^^^ 4294967295

/-- The table of half a byte's steps. -/
def tab : List Int := [0, 498536548, 997073096, 651767980, 1994146192, 1802195444, 1303535960, 1342533948, 3988292384, 4027552580, 3604390888, 3412177804, 2607071920, 2262029012, 2685067896, 3183342108]

theorem xor_left_comm (x y z : Nat) : x ^^^ (y ^^^ z) = y ^^^ (x ^^^ z) := by
  rw [← Nat.xor_assoc, Nat.xor_comm x y, Nat.xor_assoc]

theorem xor_back (x y : Nat) : x ^^^ (x ^^^ y) = y := by
  rw [← Nat.xor_assoc, Nat.xor_self, Nat.zero_xor]

theorem eq_of_xor_zero {x y : Nat} (h : x ^^^ y = 0) : x = y := by
  have := xor_back x y
  rw [h, Nat.xor_zero] at this
  exact this

theorem xor_inj_left {x y z : Nat} (h : x ^^^ y = x ^^^ z) : y = z := by
  have := congrArg (x ^^^ ·) h
  simpa [xor_back] using this

theorem xor_inj_right {x y z : Nat} (h : y ^^^ x = z ^^^ x) : y = z := by
  rw [Nat.xor_comm y, Nat.xor_comm z] at h
  exact xor_inj_left h

theorem xor_lt32 {x y : Nat} (hx : x < 4294967296) (hy : y < 4294967296) : x ^^^ y < 4294967296 := Nat.xor_lt_two_pow (n := 32) hx hy

theorem i64_xor32 (a b : Nat) (ha : a < 4294967296) (hb : b < 4294967296) : bits .xor .i64 (a : Int) (b : Int) = ((a ^^^ b : Nat) : Int) := by
  have hx := xor_lt32 ha hb
  show IntKind.i64.wrap ((BitVec.ofInt 64 (a : Int) ^^^ BitVec.ofInt 64 (b : Int)).toNat : Int) = _
  rw [BitVec.toNat_xor, ofInt_u64 a (by omega), ofInt_u64 b (by omega)]
  simp [IntKind.wrap, IntKind.bits, IntKind.signed]
  omega

theorem bit1_xor (x y : Nat) : bit1 (x ^^^ y) = bit1 x ^^^ bit1 y := by
  have hm := @Nat.xor_mod_two_eq_one x y
  have hd := @Nat.xor_div_two x y
  unfold bit1
  rw [hd]
  by_cases h1 : x % 2 = 1 <;> by_cases h2 : y % 2 = 1
  · rw [if_neg (by rw [hm]; simp [h1, h2]), if_pos h1, if_pos h2]
    rw [Nat.xor_assoc, xor_left_comm 3988292384, Nat.xor_self, Nat.xor_zero]
  · rw [if_pos (by rw [hm]; simp [h1, h2]), if_pos h1, if_neg h2]
    rw [Nat.xor_assoc, Nat.xor_assoc, Nat.xor_comm (y / 2)]
  · rw [if_pos (by rw [hm]; simp [h1, h2]), if_neg h1, if_pos h2]
    rw [Nat.xor_assoc]
  · rw [if_neg (by rw [hm]; simp [h1, h2]), if_neg h1, if_neg h2]

theorem bit1_even (x : Nat) : bit1 (2 * x) = x := by
  unfold bit1
  rw [if_neg (by omega)]
  omega

theorem bit1_lt {c : Nat} (h : c < 4294967296) : bit1 c < 4294967296 := by
  unfold bit1
  split
  · exact xor_lt32 (by omega) (by decide)
  · omega

theorem bit1_zero {c : Nat} (h : c < 4294967296) (h0 : bit1 c = 0) : c = 0 := by
  unfold bit1 at h0
  split at h0
  · have := eq_of_xor_zero h0
    omega
  · omega

theorem bit4_xor (x y : Nat) : bit4 (x ^^^ y) = bit4 x ^^^ bit4 y := by
  unfold bit4
  rw [bit1_xor, bit1_xor, bit1_xor, bit1_xor]

theorem bit4_even (x : Nat) : bit4 (16 * x) = x := by
  unfold bit4
  rw [show 16 * x = 2 * (2 * (2 * (2 * x))) by omega, bit1_even, bit1_even, bit1_even, bit1_even]

theorem bit4_lt {c : Nat} (h : c < 4294967296) : bit4 c < 4294967296 := bit1_lt (bit1_lt (bit1_lt (bit1_lt h)))

theorem bit4_zero {c : Nat} (h : c < 4294967296) (h0 : bit4 c = 0) : c = 0 :=
  bit1_zero h (bit1_zero (bit1_lt h) (bit1_zero (bit1_lt (bit1_lt h)) (bit1_zero (bit1_lt (bit1_lt (bit1_lt h))) h0)))

theorem bit8_xor (x y : Nat) : bit8 (x ^^^ y) = bit8 x ^^^ bit8 y := by
  unfold bit8
  rw [bit4_xor, bit4_xor]

theorem bit8_even (x : Nat) : bit8 (256 * x) = x := by
  unfold bit8
  rw [show 256 * x = 16 * (16 * x) by omega, bit4_even, bit4_even]

theorem bit8_lt {c : Nat} (h : c < 4294967296) : bit8 c < 4294967296 := bit4_lt (bit4_lt h)

theorem bit8_zero {c : Nat} (h : c < 4294967296) (h0 : bit8 c = 0) : c = 0 := bit4_zero h (bit4_zero (bit4_lt h) h0)

theorem bit8_inj {c d : Nat} (hc : c < 4294967296) (hd : d < 4294967296) (h : bit8 c = bit8 d) : c = d := by
  apply eq_of_xor_zero
  apply bit8_zero (xor_lt32 hc hd)
  rw [bit8_xor, h, Nat.xor_self]

theorem add_xor {i b : Nat} (h : b < 2 ^ i) (a : Nat) : 2 ^ i * a + b = 2 ^ i * a ^^^ b := by
  apply Nat.eq_of_testBit_eq
  intro j
  rw [Nat.testBit_two_pow_mul_add _ h, Nat.testBit_xor, Nat.testBit_two_pow_mul]
  by_cases hj : j < i
  · simp [hj, Nat.not_le.2 hj]
  · have hb : b.testBit j = false := Nat.testBit_lt_two_pow (Nat.lt_of_lt_of_le h (Nat.pow_le_pow_right (by decide) (by omega)))
    simp [hj, hb, Nat.le_of_not_lt hj]

/-- A number in two: what is above its last four bits, and these. -/
theorem nib (c : Nat) : c = (16 * (c / 16)) ^^^ (c % 16) := by
  have h : 2 ^ 4 * (c / 16) + c % 16 = 2 ^ 4 * (c / 16) ^^^ c % 16 := add_xor (Nat.mod_lt _ (by decide)) _
  have h2 := Nat.div_add_mod c 16
  simp only [Nat.reducePow] at h
  omega

theorem tab_bit4 : ∀ n, n < 16 → tab.getD n 0 = ((bit4 n : Nat) : Int) := by decide

/-- HALF A BYTE's STEPS BY THE TABLE. -/
theorem half_bit4 (c : Nat) : c / 16 ^^^ bit4 (c % 16) = bit4 c := by
  conv => rhs; rw [nib c, bit4_xor, bit4_even]

theorem stepN_lt {c b : Nat} (hc : c < 4294967296) (hb : b < 256) : stepN c b < 4294967296 := bit8_lt (xor_lt32 hc (by omega))

theorem stepN_inj {c d b : Nat} (hc : c < 4294967296) (hd : d < 4294967296) (hb : b < 256) : stepN c b = stepN d b ↔ c = d := by
  constructor
  · intro h
    exact xor_inj_right (bit8_inj (xor_lt32 hc (by omega)) (xor_lt32 hd (by omega)) h)
  · rintro rfl
    rfl

theorem stepN_inj_byte {c a b : Nat} (hc : c < 4294967296) (ha : a < 256) (hb : b < 256) : stepN c a = stepN c b ↔ a = b := by
  constructor
  · intro h
    exact xor_inj_left (bit8_inj (xor_lt32 hc (by omega)) (xor_lt32 hc (by omega)) h)
  · rintro rfl
    rfl

theorem foldN_nil (c : Nat) : foldN c [] = c := rfl
theorem foldN_cons (c : Nat) (b : UInt8) (l : List UInt8) : foldN c (b :: l) = foldN (stepN c b.toNat) l := rfl
theorem foldN_app (c : Nat) (l m : List UInt8) : foldN c (l ++ m) = foldN (foldN c l) m := List.foldl_append

theorem foldN_lt {c : Nat} (hc : c < 4294967296) (l : List UInt8) : foldN c l < 4294967296 := by
  induction l generalizing c with
  | nil => exact hc
  | cons b l ih => exact ih (stepN_lt hc b.toNat_lt)

theorem foldN_inj {c d : Nat} (hc : c < 4294967296) (hd : d < 4294967296) (l : List UInt8) (h : foldN c l = foldN d l) : c = d := by
  induction l generalizing c d with
  | nil => exact h
  | cons b l ih => exact (stepN_inj hc hd b.toNat_lt).1 (ih (stepN_lt hc b.toNat_lt) (stepN_lt hd b.toNat_lt) h)

theorem sumN_lt (l : List UInt8) : sumN l < 4294967296 := xor_lt32 (foldN_lt (by decide) l) (by decide)

theorem sumN_inj {l m : List UInt8} (h : sumN l = sumN m) : foldN 4294967295 l = foldN 4294967295 m := xor_inj_right h

theorem sumN_one (l : List UInt8) (b : UInt8) : sumN (l ++ [b]) = stepN (sumN l ^^^ 4294967295) b.toNat ^^^ 4294967295 := by
  unfold sumN
  rw [foldN_app, Nat.xor_assoc, Nat.xor_self, Nat.xor_zero, foldN_cons, foldN_nil]

/-- What a change of four bytes in a row makes of the check behind them. -/
theorem four (C x0 x1 x2 x3 a b c d : Nat) :
    stepN (stepN (stepN (stepN C (x0 ^^^ a)) (x1 ^^^ b)) (x2 ^^^ c)) (x3 ^^^ d)
      = stepN (stepN (stepN (stepN C x0) x1) x2) x3 ^^^ bit8 (bit8 (bit8 (bit8 (a ^^^ 256 * b ^^^ 65536 * c ^^^ 16777216 * d)))) := by
  have e1 : bit8 (a ^^^ 256 * b ^^^ 65536 * c ^^^ 16777216 * d) = bit8 a ^^^ b ^^^ 256 * c ^^^ 65536 * d := by
    rw [bit8_xor, bit8_xor, bit8_xor, bit8_even, show 65536 * c = 256 * (256 * c) by omega, bit8_even, show 16777216 * d = 256 * (65536 * d) by omega, bit8_even]
  have e2 : bit8 (bit8 a ^^^ b ^^^ 256 * c ^^^ 65536 * d) = bit8 (bit8 a ^^^ b) ^^^ c ^^^ 256 * d := by
    rw [bit8_xor, bit8_xor, bit8_even, show 65536 * d = 256 * (256 * d) by omega, bit8_even]
  have e3 : bit8 (bit8 (bit8 a ^^^ b) ^^^ c ^^^ 256 * d) = bit8 (bit8 (bit8 a ^^^ b) ^^^ c) ^^^ d := by
    rw [bit8_xor, bit8_even]
  rw [e1, e2, e3]
  unfold stepN
  have s (C x a D : Nat) : bit8 ((C ^^^ D) ^^^ (x ^^^ a)) = bit8 (C ^^^ x) ^^^ bit8 (D ^^^ a) := by
    rw [← bit8_xor]
    congr 1
    rw [Nat.xor_assoc, Nat.xor_assoc, xor_left_comm D]
  have s0 : bit8 (C ^^^ (x0 ^^^ a)) = bit8 (C ^^^ x0) ^^^ bit8 a := by rw [← Nat.xor_assoc, bit8_xor]
  rw [s0, s, s, s]

theorem four_zero {a b c d : Nat} (ha : a < 256) (hb : b < 256) (hc : c < 256) (h : a ^^^ 256 * b ^^^ 65536 * c ^^^ 16777216 * d = 0) : a = 0 ∧ b = 0 ∧ c = 0 ∧ d = 0 := by
  have h1 : 2 ^ 8 * b + a = 2 ^ 8 * b ^^^ a := add_xor ha b
  have h2 : 2 ^ 16 * c + (2 ^ 8 * b + a) = 2 ^ 16 * c ^^^ (2 ^ 8 * b + a) := add_xor (by omega) c
  have h3 : 2 ^ 24 * d + (2 ^ 16 * c + (2 ^ 8 * b + a)) = 2 ^ 24 * d ^^^ (2 ^ 16 * c + (2 ^ 8 * b + a)) := add_xor (by omega) d
  simp only [Nat.reducePow] at h1 h2 h3
  rw [Nat.xor_comm a, ← h1, Nat.xor_comm (256 * b + a), ← h2, Nat.xor_comm, ← h3] at h
  omega

/-- FOUR BYTES IN A ROW ARE OTHERS: SO IS THE SUM. -/
theorem harm (p q : List UInt8) (x0 x1 x2 x3 a b c d : UInt8) (h : ¬(a = 0 ∧ b = 0 ∧ c = 0 ∧ d = 0)) :
    sumN (p ++ (x0 ^^^ a) :: (x1 ^^^ b) :: (x2 ^^^ c) :: (x3 ^^^ d) :: q) ≠ sumN (p ++ x0 :: x1 :: x2 :: x3 :: q) := by
  intro e
  have e := sumN_inj e
  simp only [foldN_app, foldN_cons, UInt8.toNat_xor] at e
  have hC : foldN 4294967295 p < 4294967296 := foldN_lt (by decide) p
  generalize foldN 4294967295 p = C at *
  have l4 (y0 y1 y2 y3 : Nat) (h0 : y0 < 256) (h1 : y1 < 256) (h2 : y2 < 256) (h3 : y3 < 256) : stepN (stepN (stepN (stepN C y0) y1) y2) y3 < 4294967296 :=
    stepN_lt (stepN_lt (stepN_lt (stepN_lt hC h0) h1) h2) h3
  have lx (x y : UInt8) : x.toNat ^^^ y.toNat < 256 := by
    rw [← UInt8.toNat_xor]
    exact UInt8.toNat_lt _
  have e := foldN_inj (l4 _ _ _ _ (lx _ _) (lx _ _) (lx _ _) (lx _ _)) (l4 _ _ _ _ x0.toNat_lt x1.toNat_lt x2.toNat_lt x3.toNat_lt) q e
  rw [four] at e
  have e0 := xor_inj_left (e.trans (Nat.xor_zero _).symm)
  have ha := a.toNat_lt
  have hb := b.toNat_lt
  have hc := c.toNat_lt
  have hd := d.toNat_lt
  have hz : a.toNat ^^^ 256 * b.toNat ^^^ 65536 * c.toNat ^^^ 16777216 * d.toNat < 4294967296 := xor_lt32 (xor_lt32 (xor_lt32 (by omega) (by omega)) (by omega)) (by omega)
  have z := bit8_zero hz (bit8_zero (bit8_lt hz) (bit8_zero (bit8_lt (bit8_lt hz)) (bit8_zero (bit8_lt (bit8_lt (bit8_lt hz))) e0)))
  obtain ⟨z1, z2, z3, z4⟩ := four_zero ha hb hc z
  exact h ⟨UInt8.toNat_inj.1 z1, UInt8.toNat_inj.1 z2, UInt8.toNat_inj.1 z3, UInt8.toNat_inj.1 z4⟩
end

/-! CrStep -/
section
open Go.RowKit

/-- The table of half a byte's steps lies in its variable. -/
structure Tab (w : World) : Prop where
  lt : 1 < w.heap.size
  cell : ∀ i, i < 16 → w.cell? ⟨1, i, none⟩ = some (.int .u32 ((bit4 i : Nat) : Int))

theorem Tab.below {w w' : World} (h : Tab w) (hb : Below w.heap.size w w') : Tab w' :=
  ⟨Nat.lt_of_lt_of_le h.lt hb.size, fun i hi => by rw [hb.cell h.lt]; exact h.cell i hi⟩

theorem and15 (c : Nat) (h : c < 4294967296) : bits .and .u32 (c : Int) 15 = ((c % 16 : Nat) : Int) := by
  have := u32_and_nat c 15 h (by decide)
  rw [show ((15 : Nat) : Int) = 15 from rfl] at this
  rw [this, Nat.and_two_pow_sub_one_eq_mod c 4]

theorem xor_half (c : Nat) (h : c < 4294967296) : bits .xor .u32 ((c : Int) / 16) ((bit4 (c % 16) : Nat) : Int) = ((bit4 c : Nat) : Int) := by
  have := u32_xor_nat (c / 16) (bit4 (c % 16)) (by omega) (bit4_lt (by omega))
  rw [half_bit4] at this
  exact this

theorem half_any (c : Nat) (hc : c < 4294967296) (w : World) (h : Tab w) :
    Calls Tryz.prog 140 #[.int .u32 c] w fun r w' => r = .returned (.int .u32 ((bit4 c : Nat) : Int)) ∧ w = w' := by
  have e1 := and15 c hc
  have e2 := xor_half c hc
  have hcell := h.cell (c % 16) (Nat.mod_lt _ (by decide))
  go_enter Tryz.func140, Tryz.ntmps140
  go_wp2
  go_ret
  exact ⟨rfl, rfl⟩

theorem step_any (c b : Nat) (hc : c < 4294967296) (hb : b < 256) (w : World) (h : Tab w) :
    Calls Tryz.prog 118 #[.int .u32 c, .int .u8 b] w fun r w' => r = .returned (.int .u32 ((stepN c b : Nat) : Int)) ∧ w = w' := by
  have e1 := u32_xor_nat c b hc (by omega)
  have hx : c ^^^ b < 4294967296 := xor_lt32 hc (by omega)
  unfold stepN bit8
  generalize c ^^^ b = x at *
  have H1 : Hid _ := half_any x hx w h
  have H2 : Hid _ := half_any (bit4 x) (bit4_lt hx) w h
  clear h
  go_enter Tryz.func118, Tryz.ntmps118
  go_wp2_with fail
  refine Calls.mono H1.out ?_
  rintro e w' ⟨rfl, rfl⟩
  go_wp2_with fail
  refine Calls.mono H2.out ?_
  rintro e w' ⟨rfl, rfl⟩
  go_wp2
  go_ret
  exact ⟨rfl, rfl⟩
end

/-! CrSum -/
section
open Go.RowKit

theorem cat_take (xs : List ByteArray) (k : Nat) (h : k < xs.length) : cat (xs.take (k + 1)) = cat (xs.take k) ++ (xs.getD k ByteArray.empty).data.toList := by
  have e : xs.take (k + 1) = xs.take k ++ [xs.getD k ByteArray.empty] := by
    rw [List.take_succ_eq_append_getElem h, List.getD_eq_getElem?_getD, List.getElem?_eq_getElem h]
    rfl
  rw [e]
  unfold cat
  rw [List.map_append, List.flatten_append]
  simp

/-- A slice of strings, as the walk is told of it: the strings are xs. -/
structure StrRow (w : World) (a : Option Addr) (len cap : Nat) (xs : List ByteArray) : Prop where
  len_eq : xs.length = len
  le_cap : len ≤ cap
  small : len ≤ maxLen
  sizes : ∀ k, k < len → (xs.getD k ByteArray.empty).size ≤ maxLen
  cells : ∀ k, k < len → ∃ b o, a = some ⟨b, o, none⟩ ∧ b < w.heap.size ∧ w.cell? ⟨b, o + k, none⟩ = some (.string (xs.getD k ByteArray.empty))

theorem StrRow.below {w w' : World} {a : Option Addr} {len cap : Nat} {xs : List ByteArray} (h : StrRow w a len cap xs) (hb : Below w.heap.size w w') : StrRow w' a len cap xs := by
  refine ⟨h.len_eq, h.le_cap, h.small, h.sizes, fun k hk => ?_⟩
  obtain ⟨b, o, ha, hlt, hc⟩ := h.cells k hk
  exact ⟨b, o, ha, Nat.lt_of_lt_of_le hlt hb.size, by rw [hb.cell hlt]; exact hc⟩

theorem foldN_take (c : Nat) (x : ByteArray) (i : Nat) (h : i < x.size) : foldN c (x.data.toList.take (i + 1)) = stepN (foldN c (x.data.toList.take i)) x[i].toNat := by
  have h' : i < x.data.toList.length := by simpa using h
  rw [List.take_succ_eq_append_getElem h', foldN_app]
  rfl

set_option maxHeartbeats 1000000 in
theorem sum_any (a : Option Addr) (len cap : Nat) (xs : List ByteArray) (w : World) (h : Tab w) (row : StrRow w a len cap xs) :
    Calls Tryz.prog 90 #[.slice a len cap] w fun r w' => r = .returned (.int .i64 ((sumN (cat xs) : Nat) : Int)) ∧ w = w' := by
  have hm := row.small
  unfold maxLen at hm
  have ROW : Hid (StrRow w a len cap xs) := row
  have TAB : Hid (Tab w) := h
  clear row h
  go_enter Tryz.func90, Tryz.ntmps90
  go_wp2
  go_loop [3, 9] (fun c i => ∃ (k C : Nat), k ≤ len ∧ i = .int .i64 k ∧ c = .int .u32 C ∧ C < 4294967296 ∧ Hid (C = foldN 4294967295 (cat (xs.take k)))) (fun _ i => len - (intOf i).toNat)
  case atStart => exact ⟨0, 4294967295, Nat.zero_le _, rfl, rfl, by decide, rfl⟩
  case round =>
    obtain ⟨k, C, hk, rfl, rfl, hC, eC⟩ := hrel
    by_cases hlt : k < len
    · obtain ⟨bx, o, rfl, hbx, hc⟩ := ROW.out.cells k hlt
      have hz := ROW.out.sizes k hlt
      unfold maxLen at hz
      have eT : Hid (cat (xs.take (k + 1)) = cat (xs.take k) ++ (xs.getD k ByteArray.empty).data.toList) := cat_take xs k (by rw [ROW.out.len_eq]; exact hlt)
      generalize xs.getD k ByteArray.empty = x at *
      go_wp2
      go_loop [3, 15] (fun c i => ∃ (j D : Nat), j ≤ x.size ∧ i = .int .i64 j ∧ c = .int .u32 D ∧ D < 4294967296 ∧ Hid (D = foldN C (x.data.toList.take j))) (fun _ i => x.size - (intOf i).toNat)
      case atStart => exact ⟨0, C, Nat.zero_le _, rfl, rfl, hC, rfl⟩
      case round =>
        obtain ⟨j, D, hj, rfl, rfl, hD, eD⟩ := hrel
        by_cases hlj : j < x.size
        · have T : Hid _ := foldN_take C x j hlj
          have S : Hid _ := step_any D x[j].toNat hD (UInt8.toNat_lt _) w TAB.out
          have hS : stepN D x[j].toNat < 4294967296 := stepN_lt hD (UInt8.toNat_lt _)
          go_wp2_with fail
          refine Calls.mono S.out ?_
          rintro e w' ⟨rfl, rfl⟩
          go_wp2
          refine ⟨⟨j + 1, _, by omega, by go_num, rfl, hS, ?_⟩, by simp [intOf]; omega⟩
          rw [Hid, T.out, ← eD.out]
        · have T : Hid (x.data.toList.take j = x.data.toList) := List.take_of_length_le (by simp; omega)
          go_wp2
          refine ⟨⟨k + 1, D, by omega, by go_num, rfl, hD, ?_⟩, by simp [intOf]; omega⟩
          rw [Hid, eT.out, foldN_app, ← eC.out, eD.out, T.out]
    · have e1 : bits .xor .u32 (C : Int) 4294967295 = ((C ^^^ 4294967295 : Nat) : Int) := u32_xor_nat C 4294967295 hC (by decide)
      have e2 : Hid (sumN (cat xs) = C ^^^ 4294967295) := by
        rw [Hid, sumN, eC.out, List.take_of_length_le (by rw [ROW.out.len_eq]; omega)]
      have e3 : C ^^^ 4294967295 < 4294967296 := xor_lt32 hC (by decide)
      generalize C ^^^ 4294967295 = S at *
      go_wp2
      go_ret
      rw [e2.out]
      exact ⟨rfl, rfl⟩

theorem row_new (xs : List ByteArray) (vs : Array Value) (w : World) (n : Nat) (hn : xs.length = n) (hv : vs = (xs.map Value.string).toArray) (hs : n ≤ 8) (hz : ∀ x ∈ xs, x.size ≤ maxLen) :
    StrRow (w.alloc (.cells vs 9)) (some ⟨w.heap.size, 0, none⟩) n n xs := by
  subst hn hv
  refine ⟨rfl, Nat.le_refl _, by unfold maxLen; omega, fun k hk => ?_, fun k hk => ⟨_, _, rfl, by simp, ?_⟩⟩
  · rw [List.getD_eq_getElem?_getD, List.getElem?_eq_getElem hk]
    exact hz _ (List.getElem_mem hk)
  · rw [World.cell?_alloc_at _ 9 _ (0 + k) rfl, Nat.zero_add, List.getD_eq_getElem?_getD, List.getElem?_eq_getElem hk]
    simp [hk]

theorem sum_new (xs : List ByteArray) (vs : Array Value) (w : World) (n : Nat) (h : Tab w) (hn : xs.length = n) (hv : vs = (xs.map Value.string).toArray) (hs : n ≤ 8) (hz : ∀ x ∈ xs, x.size ≤ maxLen) :
    Calls Tryz.prog 90 #[.slice (some ⟨w.heap.size, 0, none⟩) n n] (w.alloc (.cells vs 9)) fun r w' => r = .returned (.int .i64 ((sumN (cat xs) : Nat) : Int)) ∧ w.alloc (.cells vs 9) = w' :=
  sum_any _ n n xs _ (h.below ((Below.refl _ _).alloc (Nat.le_refl _) _)) (row_new xs vs w n hn hv hs hz)

theorem sum1 (x : ByteArray) (w : World) (h : Tab w) (hx : x.size ≤ maxLen) :
    Calls Tryz.prog 90 #[.slice (some ⟨w.heap.size, 0, none⟩) 1 1] (w.alloc (.cells #[.string x] 9)) fun r w' => r = .returned (.int .i64 ((sumN x.data.toList : Nat) : Int)) ∧ w.alloc (.cells #[.string x] 9) = w' := by
  have := sum_new [x] #[.string x] w 1 h rfl rfl (by decide) (by simpa using hx)
  rw [show cat [x] = x.data.toList by simp [cat]] at this
  exact this

theorem sum2 (x y : ByteArray) (w : World) (h : Tab w) (hx : x.size ≤ maxLen) (hy : y.size ≤ maxLen) :
    Calls Tryz.prog 90 #[.slice (some ⟨w.heap.size, 0, none⟩) 2 2] (w.alloc (.cells #[.string x, .string y] 9)) fun r w' => r = .returned (.int .i64 ((sumN (x.data.toList ++ y.data.toList) : Nat) : Int)) ∧ w.alloc (.cells #[.string x, .string y] 9) = w' := by
  have := sum_new [x, y] #[.string x, .string y] w 2 h rfl rfl (by decide) (by simpa using ⟨hx, hy⟩)
  rw [show cat [x, y] = x.data.toList ++ y.data.toList by simp [cat]] at this
  exact this

theorem sum3 (x y z : ByteArray) (w : World) (h : Tab w) (hx : x.size ≤ maxLen) (hy : y.size ≤ maxLen) (hz : z.size ≤ maxLen) :
    Calls Tryz.prog 90 #[.slice (some ⟨w.heap.size, 0, none⟩) 3 3] (w.alloc (.cells #[.string x, .string y, .string z] 9)) fun r w' => r = .returned (.int .i64 ((sumN (x.data.toList ++ (y.data.toList ++ z.data.toList)) : Nat) : Int)) ∧ w.alloc (.cells #[.string x, .string y, .string z] 9) = w' := by
  have := sum_new [x, y, z] #[.string x, .string y, .string z] w 3 h rfl rfl (by decide) (by simpa using ⟨hx, hy, hz⟩)
  rw [show cat [x, y, z] = x.data.toList ++ (y.data.toList ++ z.data.toList) by simp [cat]] at this
  exact this

theorem sum0 (w : World) (h : Tab w) : Calls Tryz.prog 90 #[.slice none 0 0] w fun r w' => r = .returned (.int .i64 0) ∧ w = w' :=
  sum_any none 0 0 [] w h ⟨rfl, Nat.le_refl _, by unfold maxLen; omega, fun k hk => absurd hk (Nat.not_lt_zero k), fun k hk => absurd hk (Nat.not_lt_zero k)⟩

theorem sumN_nine : ((sumN [49, 50, 51, 52, 53, 54, 55, 56, 57] : Nat) : Int) = 3421780262 := by decide +kernel
theorem step_zero : ((stepN 0 0 : Nat) : Int) = 0 := by decide

/-- The examples' blocks. -/
theorem nine1 (w : World) (h : Tab w) : Calls Tryz.prog 90 #[.slice (some ⟨w.heap.size, 0, none⟩) 1 1] (w.alloc (.cells #[.string ⟨#[49, 50, 51, 52, 53, 54, 55, 56, 57]⟩] 9)) fun r w' => r = .returned (.int .i64 3421780262) ∧ Below w.heap.size w w' := by
  have := sum1 ⟨#[49, 50, 51, 52, 53, 54, 55, 56, 57]⟩ w h (by decide)
  rw [sumN_nine] at this
  exact this.mono fun r w' ⟨h1, h2⟩ => ⟨h1, by subst h2; exact (Below.refl _ _).alloc (Nat.le_refl _) _⟩
theorem nine2 (w : World) (h : Tab w) : Calls Tryz.prog 90 #[.slice (some ⟨w.heap.size, 0, none⟩) 2 2] (w.alloc (.cells #[.string ⟨#[49, 50, 51, 52]⟩, .string ⟨#[53, 54, 55, 56, 57]⟩] 9)) fun r w' => r = .returned (.int .i64 3421780262) ∧ Below w.heap.size w w' := by
  have := sum2 ⟨#[49, 50, 51, 52]⟩ ⟨#[53, 54, 55, 56, 57]⟩ w h (by decide) (by decide)
  rw [show ((⟨#[49, 50, 51, 52]⟩ : ByteArray).data.toList ++ (⟨#[53, 54, 55, 56, 57]⟩ : ByteArray).data.toList) = [49, 50, 51, 52, 53, 54, 55, 56, 57] from rfl, sumN_nine] at this
  exact this.mono fun r w' ⟨h1, h2⟩ => ⟨h1, by subst h2; exact (Below.refl _ _).alloc (Nat.le_refl _) _⟩
end

/-! CrLaid -/
section
open Go.RowKit Go.WideShapes

theorem laidOut : laidOutB Tryz.prog = true := by kernel_rfl
theorem own : ownKnob Tryz.prog.godebug = none := by kernel_rfl
theorem gHalves : Tryz.prog.globalNamed "rootstock/crc.halves" = some 1 := by kernel_rfl
theorem tHalves : (Tryz.prog.globals[1]?).map (·.type) = some 201 := by kernel_rfl

theorem cell_lt {w : World} {p : Addr} {v : Value} (h : w.cell? p = some v) : p.block < w.heap.size := by
  unfold World.cell? at h
  by_cases hb : p.block < w.heap.size
  · exact hb
  · rw [Array.getElem?_eq_none (by omega)] at h
    simp at h

theorem tab_of_laid {W : World} (h : laidMetH Tryz.prog [("rootstock/crc.halves", Rows.laid_rootstock_crc_halves)] W) : Tab W := by
  rw [MakeChecks.laidMetH_plain _ _ _ (by kernel_rfl)] at h
  have hT : Lib.TabIs Tryz.prog W "rootstock/crc.halves" .u32 tab :=
    Lib.tabIs_of_head gHalves tHalves Tryz.underlying201 Tryz.underlying146 (by kernel_rfl) (by kernel_rfl) (rest := []) h
  have hc : ∀ i, i < 16 → W.cell? ⟨1, i, none⟩ = some (.int .u32 ((bit4 i : Nat) : Int)) := fun i hi => by
    rw [← tab_bit4 i hi]
    exact hT.cell gHalves i hi
  exact ⟨cell_lt (hc 0 (by decide)), hc⟩

/-- The door's own heap meets the condition. -/
theorem door_met (os : Os) (args : Array Value) : laidMetH Tryz.prog [("rootstock/crc.halves", Rows.laid_rootstock_crc_halves)] ((World.doorLaid Tryz.prog 400 os).forCall (fun _ _ => 0) ⟨#[], args, []⟩).memory :=
  laidMetH_of_parts3 (fuel := 8) (laidMet_of_run' 8 (by kernel_rfl) (by kernel_rfl)) (by kernel_rfl) (by kernel_rfl)
end

/-! CrRef -/
section
open Go.RowKit

/-- So many of a byte's eight steps. -/
def bitK (c : Nat) : Nat → Nat
  | 0 => c
  | k + 1 => bit1 (bitK c k)

theorem bitK_lt {c : Nat} (h : c < 4294967296) : ∀ k, bitK c k < 4294967296
  | 0 => h
  | k + 1 => bit1_lt (bitK_lt h k)

theorem bitK_eight (c : Nat) : bitK c 8 = bit8 c := rfl

set_option maxHeartbeats 1000000 in
theorem refStep (c : Int) (b : Nat) (hb : b < 256) (w : World) :
    Calls Tryz.prog 126 #[.int .i64 c, .int .u8 b] w fun r w' => r = .returned (.int .i64 ((stepN (c % 4294967296).toNat b : Nat) : Int)) ∧ w = w' := by
  have hlt : (c % 4294967296).toNat < 4294967296 := by omega
  have ew : c % 4294967296 = (((c % 4294967296).toNat : Nat) : Int) := by omega
  unfold stepN
  have e1 := u32_xor_nat (c % 4294967296).toNat b hlt (by omega)
  have hx : (c % 4294967296).toNat ^^^ b < 4294967296 := xor_lt32 hlt (by omega)
  generalize (c % 4294967296).toNat = n at *
  generalize n ^^^ b = x at *
  have E8 : Hid (bitK x 8 = bit8 x) := bitK_eight x
  go_enter Tryz.func126, Tryz.ntmps126
  go_wp2
  go_loop [5, 6] (fun c i => ∃ (k C : Nat), k ≤ 8 ∧ i = .int .i64 k ∧ c = .int .u32 C ∧ C < 4294967296 ∧ Hid (C = bitK x k)) (fun _ i => 8 - (intOf i).toNat)
  case atStart => exact ⟨0, x, Nat.zero_le _, rfl, rfl, hx, rfl⟩
  case round =>
    obtain ⟨k, C, hk, rfl, rfl, hC, eC⟩ := hrel
    by_cases hlt : k < 8
    · have hB := bit1_lt hC
      by_cases ho : C % 2 = 1
      · have eB : Hid (bit1 C = C / 2 ^^^ 3988292384) := by rw [Hid, bit1, if_pos ho]
        have e2 : bits .xor .u32 ((C : Int) / 2) 3988292384 = ((C / 2 ^^^ 3988292384 : Nat) : Int) := u32_xor_nat (C / 2) 3988292384 (by omega) (by decide)
        have ho' : (C : Int) % 2 = 1 := by omega
        go_wp2
        refine ⟨⟨k + 1, _, by omega, by go_num, rfl, by rw [← eB.out]; exact hB, ?_⟩, by simp [intOf]; omega⟩
        rw [Hid, ← eB.out, bitK, ← eC.out]
      · have eB : Hid (bit1 C = C / 2) := by rw [Hid, bit1, if_neg ho]
        have ho' : (C : Int) % 2 = 0 := by omega
        go_wp2
        refine ⟨⟨k + 1, C / 2, by omega, by go_num, by simp, by omega, ?_⟩, by simp [intOf]; omega⟩
        rw [Hid, ← eB.out, bitK, ← eC.out]
    · have hk8 : Hid (k = 8) := by show k = 8; omega
      go_wp2
      go_ret
      rw [← E8.out, ← hk8.out, ← eC.out]
      exact ⟨rfl, rfl⟩

set_option maxHeartbeats 1000000 in
theorem refSum (s : ByteArray) (w : World) (hs : s.size ≤ maxLen) :
    Calls Tryz.prog 108 #[.string s] w fun r w' => r = .returned (.int .i64 ((sumN s.data.toList : Nat) : Int)) ∧ w = w' := by
  unfold maxLen at hs
  go_enter Tryz.func108, Tryz.ntmps108
  go_wp2
  go_loop [3, 4] (fun c i => ∃ (j D : Nat), j ≤ s.size ∧ i = .int .i64 j ∧ c = .int .i64 D ∧ D < 4294967296 ∧ Hid (D = foldN 4294967295 (s.data.toList.take j))) (fun _ i => s.size - (intOf i).toNat)
  case atStart => exact ⟨0, 4294967295, Nat.zero_le _, rfl, rfl, by decide, rfl⟩
  case round =>
    obtain ⟨j, D, hj, rfl, rfl, hD, eD⟩ := hrel
    by_cases hlj : j < s.size
    · have T : Hid _ := foldN_take 4294967295 s j hlj
      have S : Hid _ := refStep (D : Int) s[j].toNat (UInt8.toNat_lt _) w
      rw [show ((D : Int) % 4294967296).toNat = D by omega] at S
      have hS : stepN D s[j].toNat < 4294967296 := stepN_lt hD (UInt8.toNat_lt _)
      go_wp2_with fail
      refine Calls.mono S.out ?_
      rintro e w' ⟨rfl, rfl⟩
      go_wp2
      refine ⟨⟨j + 1, _, by omega, by go_num, rfl, hS, ?_⟩, by simp [intOf]; omega⟩
      rw [Hid, T.out, ← eD.out]
    · have e1 : bits .xor .i64 (D : Int) 4294967295 = ((D ^^^ 4294967295 : Nat) : Int) := i64_xor32 D 4294967295 hD (by decide)
      have e2 : Hid (sumN s.data.toList = D ^^^ 4294967295) := by
        rw [Hid, sumN, eD.out, List.take_of_length_le (by simp; omega)]
      generalize D ^^^ 4294967295 = S at *
      go_wp2
      go_ret
      rw [e2.out]
      exact ⟨rfl, rfl⟩
end

/-! Pg -/
section
open Go.RowKit

/-- All of a page's bytes behind its check. -/
def restL (n : Nat) (k : UInt8) (b : List UInt8) : List UInt8 :=
  beBytes 4 n ++ ([k] ++ ([0] ++ (beBytes 2 b.length ++ (List.replicate 4 0 ++ (b ++ List.replicate (240 - b.length) 0)))))
/-- A page's bytes. -/
def pageL (n : Nat) (k : UInt8) (b : List UInt8) : List UInt8 := beBytes 4 (sumN (restL n k b)) ++ restL n k b

theorem restL_length (n : Nat) (k : UInt8) (b : List UInt8) (h : b.length ≤ 240) : (restL n k b).length = 252 := by
  simp [restL, beBytes_length]; omega
theorem pageL_length (n : Nat) (k : UInt8) (b : List UInt8) (h : b.length ≤ 240) : (pageL n k b).length = 256 := by
  rw [pageL, List.length_append, beBytes_length, restL_length n k b h]

/-- The error that Seal answers. -/
def sealE (id : Int) (n : Nat) : Int := if 240 < n then 50 else if putB 4 id = true then 0 else 1
/-- The bytes that Seal answers. -/
def sealS (id : Int) (k : UInt8) (b : List UInt8) : List UInt8 := if sealE id b.length = 0 then pageL id.toNat k b else []

theorem putB4 (id : Int) : putB 4 id = true ↔ 0 ≤ id ∧ id < 4294967296 := by simp [putB, szB]
theorem sealE_zero {id : Int} {n : Nat} : sealE id n = 0 ↔ n ≤ 240 ∧ 0 ≤ id ∧ id < 4294967296 := by
  rw [← putB4]
  unfold sealE
  by_cases h : 240 < n
  · rw [if_pos h]; constructor
    · intro e; cases e
    · intro e; omega
  · rw [if_neg h]
    cases hp : putB 4 id
    · simp
    · simp; omega
theorem sealE_cases (id : Int) (n : Nat) : sealE id n = 0 ∨ sealE id n = 1 ∨ sealE id n = 50 := by
  unfold sealE; split
  · exact .inr (.inr rfl)
  · split
    · exact .inl rfl
    · exact .inr (.inl rfl)

/-- The kind, the body and the number that bytes name. -/
def opK (s : List UInt8) : UInt8 := s.getD 8 0
def opN (s : List UInt8) : Nat := beNat ((s.drop 10).take 2)
def opB (s : List UInt8) : List UInt8 := (s.drop 16).take (opN s)
def opI (s : List UInt8) : Nat := beNat ((s.drop 4).take 4)

theorem drop_pg (a b : List UInt8) (k : Nat) (h : a.length = k) : (a ++ b).drop k = b := by subst h; simp
theorem take_pg (a b : List UInt8) (k : Nat) (h : a.length = k) : (a ++ b).take k = a := by subst h; simp

theorem pageL_drop10 (n : Nat) (k : UInt8) (b : List UInt8) : (pageL n k b).drop 10 = beBytes 2 b.length ++ (List.replicate 4 0 ++ (b ++ List.replicate (240 - b.length) 0)) := by
  have e : pageL n k b = (beBytes 4 (sumN (restL n k b)) ++ (beBytes 4 n ++ ([k] ++ [0]))) ++ (beBytes 2 b.length ++ (List.replicate 4 0 ++ (b ++ List.replicate (240 - b.length) 0))) := by
    conv => lhs; rw [pageL]
    conv => lhs; rhs; rw [restL]
    simp only [List.append_assoc]
  rw [e]
  exact drop_pg _ _ 10 (by simp [beBytes_length])
theorem pageL_drop4 (n : Nat) (k : UInt8) (b : List UInt8) : (pageL n k b).drop 4 = restL n k b := drop_pg _ _ 4 (beBytes_length _ _)
theorem pageL_take4 (n : Nat) (k : UInt8) (b : List UInt8) : (pageL n k b).take 4 = beBytes 4 (sumN (restL n k b)) := take_pg _ _ 4 (beBytes_length _ _)

theorem opN_page (n : Nat) (k : UInt8) (b : List UInt8) (h : b.length ≤ 240) : opN (pageL n k b) = b.length := by
  unfold opN
  rw [pageL_drop10, take_pg _ _ 2 (beBytes_length _ _), beNat_bytes 2 _ (by omega)]
theorem opB_page (n : Nat) (k : UInt8) (b : List UInt8) (h : b.length ≤ 240) : opB (pageL n k b) = b := by
  unfold opB
  rw [opN_page n k b h, show 16 = 10 + 6 from rfl, ← List.drop_drop, pageL_drop10, ← List.append_assoc, drop_pg _ _ 6 (by simp [beBytes_length]), take_pg _ _ _ rfl]
theorem opK_page (n : Nat) (k : UInt8) (b : List UInt8) : opK (pageL n k b) = k := by
  have e : pageL n k b = (beBytes 4 (sumN (restL n k b)) ++ beBytes 4 n) ++ (k :: ([0] ++ (beBytes 2 b.length ++ (List.replicate 4 0 ++ (b ++ List.replicate (240 - b.length) 0))))) := by
    conv => lhs; rw [pageL]
    conv => lhs; rhs; rw [restL]
    simp only [List.append_assoc, List.cons_append, List.nil_append]
  unfold opK
  rw [e, List.getD_eq_getElem?_getD, List.getElem?_append_right (by simp [beBytes_length])]
  simp [beBytes_length]
theorem opI_page (n : Nat) (k : UInt8) (b : List UInt8) (h : n < 4294967296) : opI (pageL n k b) = n := by
  unfold opI
  rw [pageL_drop4, restL, take_pg _ _ 4 (beBytes_length _ _), beNat_bytes 4 _ (by omega)]

/-- UNLIKE PAGES HAVE UNLIKE BYTES. -/
theorem pageL_inj {n m : Nat} {k l : UInt8} {b c : List UInt8} (hn : n < 4294967296) (hm : m < 4294967296) (hb : b.length ≤ 240) (hc : c.length ≤ 240) (h : pageL n k b = pageL m l c) : n = m ∧ k = l ∧ b = c := by
  refine ⟨?_, ?_, ?_⟩
  · rw [← opI_page n k b hn, h, opI_page m l c hm]
  · rw [← opK_page n k b, h, opK_page m l c]
  · rw [← opB_page n k b hb, h, opB_page m l c hc]

/-- What Open answers: the kind, the body, the error. -/
def opn (id : Int) (s : List UInt8) : UInt8 × List UInt8 × Int :=
  if sealE id (opB s).length = 0 ∧ s = pageL id.toNat (opK s) (opB s) then (opK s, opB s, 0) else (0, [], 3)

theorem opn_page (id : Int) (k : UInt8) (b : List UInt8) (h : sealE id b.length = 0) : opn id (pageL id.toNat k b) = (k, b, 0) := by
  have hl := (sealE_zero.1 h).1
  unfold opn
  rw [opB_page _ _ _ hl, opK_page, if_pos ⟨h, rfl⟩]
theorem opn_inv {id : Int} {s : List UInt8} (h : (opn id s).2.2 = 0) : ∃ k b, sealE id b.length = 0 ∧ s = pageL id.toNat k b ∧ opn id s = (k, b, 0) := by
  by_cases c : sealE id (opB s).length = 0 ∧ s = pageL id.toNat (opK s) (opB s)
  · exact ⟨_, _, c.1, c.2, by rw [opn, if_pos c]⟩
  · rw [opn, if_neg c] at h; cases h
theorem opn_cases (id : Int) (s : List UInt8) : (∃ k b, sealE id b.length = 0 ∧ s = pageL id.toNat k b ∧ opn id s = (k, b, 0)) ∨ ((∀ k b, sealE id b.length = 0 → s ≠ pageL id.toNat k b) ∧ opn id s = (0, [], 3)) := by
  by_cases c : sealE id (opB s).length = 0 ∧ s = pageL id.toNat (opK s) (opB s)
  · exact .inl ⟨_, _, c.1, c.2, by rw [opn, if_pos c]⟩
  · refine .inr ⟨fun k b h e => c ?_, by rw [opn, if_neg c]⟩
    subst e
    have hl := (sealE_zero.1 h).1
    rw [opB_page _ _ _ hl, opK_page]
    exact ⟨h, rfl⟩

/-- Whether a page's check is right. -/
def chk (s : List UInt8) : Bool := decide (s.length = 256) && decide (beNat (s.take 4) = sumN (s.drop 4))
theorem chk_page (n : Nat) (k : UInt8) (b : List UInt8) (h : b.length ≤ 240) : chk (pageL n k b) = true := by
  unfold chk
  rw [pageL_length n k b h, pageL_take4, pageL_drop4, beNat_bytes 4 _ (sumN_lt _)]
  simp
theorem opn_of_chk {id : Int} {s : List UInt8} (h : chk s = false) : opn id s = (0, [], 3) := by
  rcases opn_cases id s with ⟨k, b, h1, rfl, _⟩ | ⟨_, h⟩
  · rw [chk_page _ _ _ (sealE_zero.1 h1).1] at h; cases h
  · exact h
theorem opn_other {id other : Int} {k : UInt8} {b : List UInt8} (h : sealE id b.length = 0) : (opn other (pageL id.toNat k b)).2.2 = 0 ↔ other = id := by
  constructor
  · intro e
    obtain ⟨l, c, h1, h2, _⟩ := opn_inv e
    have a1 := sealE_zero.1 h
    have a2 := sealE_zero.1 h1
    have := (pageL_inj (by omega) (by omega) a1.1 a2.1 h2).1
    omega
  · rintro rfl
    rw [opn_page _ _ _ h]

/-- FOUR BYTES IN A ROW ARE OTHERS, all within the check or all behind it: the check is not right any more. -/
theorem chk_harm (n : Nat) (kd : UInt8) (bd : List UInt8) (p q : List UInt8) (x0 x1 x2 x3 a b c d : UInt8) (h : ¬(a = 0 ∧ b = 0 ∧ c = 0 ∧ d = 0)) (e : pageL n kd bd = p ++ x0 :: x1 :: x2 :: x3 :: q) (hp : p = [] ∨ 4 ≤ p.length) :
    chk (p ++ (x0 ^^^ a) :: (x1 ^^^ b) :: (x2 ^^^ c) :: (x3 ^^^ d) :: q) = false := by
  rcases hp with rfl | hp
  · have e4 := pageL_take4 n kd bd
    have e5 := pageL_drop4 n kd bd
    rw [e] at e4 e5
    simp at e4 e5
    simp [chk]
    intro _ hs
    rw [e5] at hs
    have hne : [x0 ^^^ a, x1 ^^^ b, x2 ^^^ c, x3 ^^^ d] = [x0, x1, x2, x3] := by
      rw [e4, ← hs, beBytes_nat 4 _ rfl]
    simp at hne
    have z : ∀ x y : UInt8, x ^^^ y = x → y = 0 := fun x y hxy => by
      have : x ^^^ (x ^^^ y) = x ^^^ x := by rw [hxy]
      simpa [← UInt8.xor_assoc] using this
    exact h ⟨z _ _ hne.1, z _ _ hne.2.1, z _ _ hne.2.2.1, z _ _ hne.2.2.2⟩
  · obtain ⟨c4, p', rfl, hc4⟩ : ∃ c4 p', p = c4 ++ p' ∧ c4.length = 4 := ⟨p.take 4, p.drop 4, by simp, by simp; omega⟩
    have e4 := pageL_take4 n kd bd
    have e5 := pageL_drop4 n kd bd
    rw [e, List.append_assoc] at e4 e5
    rw [take_pg _ _ 4 hc4] at e4
    rw [drop_pg _ _ 4 hc4] at e5
    unfold chk
    rw [List.append_assoc, take_pg _ _ 4 hc4, drop_pg _ _ 4 hc4, e4, beNat_bytes 4 _ (sumN_lt _)]
    have := harm p' q x0 x1 x2 x3 a b c d h
    rw [e5] at this
    rw [Bool.and_eq_false_iff]
    exact .inr (decide_eq_false fun hh => this hh.symm)

/-- What the six calls of parts read. -/
def pr1 (s : ByteArray) : ByteArray × ByteArray × Int := rdBytes s 0 8
def pr2 (s : ByteArray) : Int × ByteArray × Int := rdInt (pr1 s).2.1 (pr1 s).2.2 1
def pr3 (s : ByteArray) : ByteArray × ByteArray × Int := rdBytes (pr2 s).2.1 (pr2 s).2.2 1
def pr4 (s : ByteArray) : Int × ByteArray × Int := rdInt (pr3 s).2.1 (pr3 s).2.2 2
def pr5 (s : ByteArray) : ByteArray × ByteArray × Int := rdBytes (pr4 s).2.1 (pr4 s).2.2 4
def pr6 (s : ByteArray) : ByteArray × ByteArray × Int := rdBytes (pr5 s).2.1 (pr5 s).2.2 (pr4 s).1
/-- The kind and the body that parts answers. -/
def prK (s : ByteArray) : UInt8 := UInt8.ofNat (pr2 s).1.toNat
def prB (s : ByteArray) : ByteArray := (pr6 s).1

theorem pr2_byte (s : ByteArray) : (pr2 s).1 = ((prK s).toNat : Int) := by
  have h : 0 ≤ (pr2 s).1 ∧ (pr2 s).1 < 256 := by
    unfold pr2 rdInt
    rw [if_neg (by decide)]
    generalize (pr1 s).2.1 = t
    generalize (pr1 s).2.2 = e
    have hl : (rdBytes t e 1).1.size ≤ 1 := by
      unfold rdBytes
      split
      · simp
      · split
        · simp
        · split
          · simp
          · simp; omega
    have h1 := beNat_lt (rdBytes t e 1).1.data.toList
    have h2 : 256 ^ (rdBytes t e 1).1.data.toList.length ≤ 256 ^ 1 := Nat.pow_le_pow_right (by omega) (by simpa using hl)
    dsimp only
    omega
  unfold prK
  simp
  omega

theorem pr_page (n : Nat) (k : UInt8) (b : List UInt8) (h : b.length ≤ 240) : prK ⟨(pageL n k b).toArray⟩ = k ∧ prB ⟨(pageL n k b).toArray⟩ = ⟨b.toArray⟩ := by
  have e : pageL n k b = (beBytes 4 (sumN (restL n k b)) ++ beBytes 4 n) ++ ([k] ++ ([0] ++ (beBytes 2 b.length ++ (List.replicate 4 0 ++ (b ++ List.replicate (240 - b.length) 0))))) := by
    conv => lhs; rw [pageL]
    conv => lhs; rhs; rw [restL]
    simp only [List.append_assoc]
  have e1 : pr1 ⟨(pageL n k b).toArray⟩ = (⟨(beBytes 4 (sumN (restL n k b)) ++ beBytes 4 n).toArray⟩, ⟨([k] ++ ([0] ++ (beBytes 2 b.length ++ (List.replicate 4 0 ++ (b ++ List.replicate (240 - b.length) 0))))).toArray⟩, 0) := by
    rw [pr1, e]
    exact rdBytes_app _ _ 8 (by simp [beBytes_length])
  have e2 : pr2 ⟨(pageL n k b).toArray⟩ = ((beNat [k] : Int), ⟨([0] ++ (beBytes 2 b.length ++ (List.replicate 4 0 ++ (b ++ List.replicate (240 - b.length) 0)))).toArray⟩, 0) := by
    rw [pr2, e1]
    exact rdInt_app _ _ 1 rfl rfl
  have e3 : pr3 ⟨(pageL n k b).toArray⟩ = (⟨[0].toArray⟩, ⟨(beBytes 2 b.length ++ (List.replicate 4 0 ++ (b ++ List.replicate (240 - b.length) 0))).toArray⟩, 0) := by
    rw [pr3, e2]
    exact rdBytes_app _ _ 1 rfl
  have e4 : pr4 ⟨(pageL n k b).toArray⟩ = ((beNat (beBytes 2 b.length) : Int), ⟨(List.replicate 4 0 ++ (b ++ List.replicate (240 - b.length) 0)).toArray⟩, 0) := by
    rw [pr4, e3]
    exact rdInt_app _ _ 2 (by rw [beBytes_length]; rfl) rfl
  rw [beNat_bytes 2 _ (by omega)] at e4
  have e5 : pr5 ⟨(pageL n k b).toArray⟩ = (⟨(List.replicate 4 0).toArray⟩, ⟨(b ++ List.replicate (240 - b.length) 0).toArray⟩, 0) := by
    rw [pr5, e4]
    exact rdBytes_app _ _ 4 rfl
  have e6 : pr6 ⟨(pageL n k b).toArray⟩ = (⟨b.toArray⟩, ⟨(List.replicate (240 - b.length) 0).toArray⟩, 0) := by
    rw [pr6, e5, e4]
    exact rdBytes_app _ _ _ rfl
  refine ⟨?_, by rw [prB, e6]⟩
  rw [prK, e2]
  simp [beNat]

/-- WHAT IS READ, SEALED AGAIN, TELLS: Open by parts and Seal is Open. -/
theorem opn_parts (id : Int) (s : ByteArray) :
    (if sealE id (prB s).size = 0 ∧ (⟨(sealS id (prK s) (prB s).data.toList).toArray⟩ : ByteArray) = s then (prK s, (prB s).data.toList, (0 : Int)) else (0, [], 3)) = opn id s.data.toList := by
  have hsz : (prB s).size = (prB s).data.toList.length := by simp
  by_cases c : sealE id (prB s).size = 0 ∧ (⟨(sealS id (prK s) (prB s).data.toList).toArray⟩ : ByteArray) = s
  · rw [if_pos c]
    have h0 : sealE id (prB s).data.toList.length = 0 := by rw [← hsz]; exact c.1
    have hs : s.data.toList = pageL id.toNat (prK s) (prB s).data.toList := by
      have := c.2
      rw [sealS, if_pos h0] at this
      conv => lhs; rw [← this]
    rw [hs, opn_page _ _ _ h0]
  · rw [if_neg c]
    rcases opn_cases id s.data.toList with ⟨k, b, h1, h2, h3⟩ | ⟨_, h⟩
    · exfalso
      apply c
      have e : s = ⟨(pageL id.toNat k b).toArray⟩ := by rw [← h2]
      obtain ⟨hk, hb⟩ := pr_page id.toNat k b (sealE_zero.1 h1).1
      rw [e, hk, hb]
      refine ⟨by rw [ba_size]; exact h1, ?_⟩
      rw [sealS, if_pos (by simpa using h1)]
    · exact h.symm
end

/-! PgSeal -/
section
open Go.RowKit

theorem repeat_zero (n : Nat) : Lib.repeatL [0] n = List.replicate n (0 : UInt8) := by
  have := Lib.repeatL_replicate 0 1 n
  simpa using this

set_option maxHeartbeats 400000 in
theorem noughts_any (n : Nat) (w : World) (hn : n ≤ 1000) :
    Calls Tryz.prog 89 #[.int .i64 n] w fun e w' => e = .returned (.string ⟨(List.replicate n (0 : UInt8)).toArray⟩) ∧ Below w.heap.size w w' := by
  have C : Hid (Calls Tryz.prog 38 #[.string ⟨#[0]⟩, .int .i64 n] w fun e w' => e = .returned (.string ⟨(Lib.repeatL [0] n).toArray⟩) ∧ Below w.heap.size w w') := Tryz.strings_Repeat ⟨#[0]⟩ n w (by omega) (by show 1 * n ≤ _; omega)
  rw [repeat_zero] at C
  go_enter Tryz.func89, Tryz.ntmps89
  go_wp2_with (go_at_call 38; refine Calls.mono C.out ?_; rintro e w' ⟨rfl, hb⟩)
  go_ret
  exact ⟨rfl, hb⟩

theorem join_new (xs : List ByteArray) (vs : Array Value) (w : World) (n : Nat) (hn : xs.length = n) (hv : vs = (xs.map Value.string).toArray) (hs : n ≤ 8) (hl : (cat xs).length ≤ 140737488355328) :
    Calls Tryz.prog 88 #[.slice (some ⟨w.heap.size, 0, none⟩) n n] (w.alloc (.cells vs 9)) fun r w' => r = .returned (.string ⟨(cat xs).toArray⟩) ∧ Below w.heap.size w w' := by
  subst hn hv
  have h := join_any w.heap.size 0 xs.length xs.length xs (w.alloc (.cells (xs.map Value.string).toArray 9)) (fun j z hj => ?_) (by simp) rfl (by omega) (Nat.le_refl _) hl
  · exact h.mono fun r w' ⟨a, b⟩ => ⟨a, ((Below.refl _ _).alloc (Nat.le_refl _) _).trans (b.mono (by simp))⟩
  · rw [World.cell?_alloc_at _ 9 _ (0 + j) rfl, Nat.zero_add]
    simp [hj]

theorem one_byte (k : UInt8) : beBytes 1 k.toNat = [k] := by simp [beBytes]

theorem cat_rest (n : Nat) (k : UInt8) (b : ByteArray) :
    cat [⟨(beBytes 4 n).toArray⟩, ⟨(beBytes 1 k.toNat).toArray⟩, ⟨(List.replicate 1 (0 : UInt8)).toArray⟩, ⟨(beBytes 2 b.size).toArray⟩, ⟨(List.replicate 4 (0 : UInt8)).toArray⟩, b, ⟨(List.replicate (240 - b.size) (0 : UInt8)).toArray⟩] = restL n k b.data.toList := by
  rw [one_byte]
  simp only [cat, List.map_cons, List.map_nil, List.flatten_cons, List.flatten_nil, List.append_nil, restL]
  rw [show b.data.toList.length = b.size by simp]
  rfl

theorem cat_page (n : Nat) (k : UInt8) (b : List UInt8) : cat [⟨(beBytes 4 (sumN (restL n k b))).toArray⟩, ⟨(restL n k b).toArray⟩] = pageL n k b := by
  simp only [cat, List.map_cons, List.map_nil, List.flatten_cons, List.flatten_nil, List.append_nil, pageL]

set_option maxRecDepth 100000 in
set_option maxHeartbeats 2000000 in
theorem seal_ok (n : Nat) (k : UInt8) (b : ByteArray) (w : World) (T : Tab w) (hn : n < 4294967296) (hb : b.size ≤ 240) :
    Calls Tryz.prog 59 #[.int .i64 n, .int .u8 (k.toNat : Int), .string b] w fun e w' => e = .returned (.tuple #[.string ⟨(pageL n k b.data.toList).toArray⟩, .int .i64 0]) ∧ Below w.heap.size w w' := by
  have TAB : Hid (Tab w) := T
  have C1 : Hid _ := put4 n w hn
  have hk : k.toNat < 256 := UInt8.toNat_lt k
  have hl : (restL n k b.data.toList).length = 252 := restL_length _ _ _ (by simpa using hb)
  have ER : Hid (_ = restL n k b.data.toList) := cat_rest n k b
  have EP : Hid (_ = pageL n k b.data.toList) := cat_page n k b.data.toList
  have hS : sumN (restL n k b.data.toList) < 4294967296 := sumN_lt _
  have hP : (pageL n k b.data.toList).length = 256 := pageL_length _ _ _ (by simpa using hb)
  generalize restL n k b.data.toList = R at *
  generalize pageL n k b.data.toList = G at *
  clear T
  go_enter Tryz.func59, Tryz.ntmps59
  go_wp2_with fail
  refine Calls.mono C1.out ?_
  rintro e w1 ⟨rfl, b1⟩
  have B1 : Hid (Below w.heap.size w w1) := b1
  clear b1 C1
  have C2 : Hid _ := put1 k.toNat w1 hk
  go_wp2_with fail
  refine Calls.mono C2.out ?_
  rintro e w2 ⟨rfl, b2⟩
  have B2 : Hid (Below w.heap.size w w2) := B1.out.trans (b2.mono B1.out.size)
  clear b2 C2
  have C3 : Hid _ := put2 b.size w2 (by omega)
  go_wp2_with fail
  refine Calls.mono C3.out ?_
  rintro e w3 ⟨rfl, b3⟩
  have B3 : Hid (Below w.heap.size w w3) := B2.out.trans (b3.mono B2.out.size)
  clear b3 C3
  have C4 : Hid (Calls Tryz.prog 89 #[.int .i64 1] w3 fun e w' => e = .returned (.string ⟨(List.replicate 1 (0 : UInt8)).toArray⟩) ∧ Below w3.heap.size w3 w') := noughts_any 1 w3 (by omega)
  go_wp2_with fail
  refine Calls.mono C4.out ?_
  rintro e w4 ⟨rfl, b4⟩
  have B4 : Hid (Below w.heap.size w w4) := B3.out.trans (b4.mono B3.out.size)
  clear b4 C4
  have C5 : Hid (Calls Tryz.prog 89 #[.int .i64 4] w4 fun e w' => e = .returned (.string ⟨(List.replicate 4 (0 : UInt8)).toArray⟩) ∧ Below w4.heap.size w4 w') := noughts_any 4 w4 (by omega)
  go_wp2_with fail
  refine Calls.mono C5.out ?_
  rintro e w5 ⟨rfl, b5⟩
  have B5 : Hid (Below w.heap.size w w5) := B4.out.trans (b5.mono B4.out.size)
  clear b5 C5
  have C6 : Hid _ := noughts_any (240 - b.size) w5 (by omega)
  rw [show (((240 - b.size : Nat) : Int)) = 240 - (b.size : Int) by omega] at C6
  go_wp2_with fail
  refine Calls.mono C6.out ?_
  rintro e w6 ⟨rfl, b6⟩
  have B6 : Hid (Below w.heap.size w w6) := B5.out.trans (b6.mono B5.out.size)
  clear b6 C6
  have C7 : Hid _ := join_new [⟨(beBytes 4 n).toArray⟩, ⟨(beBytes 1 k.toNat).toArray⟩, ⟨(List.replicate 1 (0 : UInt8)).toArray⟩, ⟨(beBytes 2 b.size).toArray⟩, ⟨(List.replicate 4 (0 : UInt8)).toArray⟩, b, ⟨(List.replicate (240 - b.size) (0 : UInt8)).toArray⟩] _ w6 7 rfl rfl (by omega) (by rw [ER.out, hl]; omega)
  rw [ER.out] at C7
  go_wp2_with fail
  refine Calls.mono C7.out ?_
  rintro e w7 ⟨rfl, b7⟩
  have B7 : Hid (Below w.heap.size w w7) := B6.out.trans (b7.mono B6.out.size)
  clear b7 C7
  have C8 : Hid _ := sum1 ⟨R.toArray⟩ w7 (TAB.out.below B7.out) (by rw [ba_size]; unfold maxLen; omega)
  rw [show (⟨R.toArray⟩ : ByteArray).data.toList = R from rfl] at C8
  go_wp2_with fail
  refine Calls.mono C8.out ?_
  rintro e w8 ⟨rfl, hw8⟩
  have B8 : Hid (Below w.heap.size w w8) := by subst hw8; exact B7.out.alloc B7.out.size _
  clear hw8 C8
  have C9 : Hid _ := put4 (sumN R) w8 hS
  go_wp2_with fail
  refine Calls.mono C9.out ?_
  rintro e w9 ⟨rfl, b9⟩
  have B9 : Hid (Below w.heap.size w w9) := B8.out.trans (b9.mono B8.out.size)
  clear b9 C9
  have C10 : Hid _ := join_new [⟨(beBytes 4 (sumN R)).toArray⟩, ⟨R.toArray⟩] _ w9 2 rfl rfl (by omega) (by rw [EP.out, hP]; omega)
  rw [EP.out] at C10
  go_wp2_with fail
  refine Calls.mono C10.out ?_
  rintro e w10 ⟨rfl, b10⟩
  have B10 : Hid (Below w.heap.size w w10) := B9.out.trans (b10.mono B9.out.size)
  clear b10 C10
  go_wp2
  go_ret2
  exact ⟨rfl, B10.out⟩

set_option maxRecDepth 100000 in
set_option maxHeartbeats 1000000 in
theorem seal_long (id : Int) (k : UInt8) (b : ByteArray) (w : World) (hb : 240 < b.size) (hm : b.size ≤ maxLen) :
    Calls Tryz.prog 59 #[.int .i64 id, .int .u8 (k.toNat : Int), .string b] w fun e w' => e = .returned (.tuple #[.string ⟨#[]⟩, .int .i64 50]) ∧ w = w' := by
  unfold maxLen at hm
  go_enter Tryz.func59, Tryz.ntmps59
  go_wp2
  go_ret2
  exact ⟨rfl, rfl⟩

set_option maxRecDepth 100000 in
set_option maxHeartbeats 1000000 in
theorem seal_arg (id : Int) (k : UInt8) (b : ByteArray) (w : World) (hb : b.size ≤ 240) (hp : putB 4 id = false) :
    Calls Tryz.prog 59 #[.int .i64 id, .int .u8 (k.toNat : Int), .string b] w fun e w' => e = .returned (.tuple #[.string ⟨#[]⟩, .int .i64 1]) ∧ Below w.heap.size w w' := by
  have C : Hid _ := put_any 4 id w
  rw [show putS 4 id = [] by simp [putS, hp], show putE 4 id = 1 by simp [putE, hp]] at C
  clear hp
  go_enter Tryz.func59, Tryz.ntmps59
  go_wp2_with fail
  refine Calls.mono C.out ?_
  rintro e w1 ⟨rfl, b1⟩
  go_wp2
  go_ret2
  exact ⟨rfl, b1⟩

theorem seal_any (id : Int) (k : UInt8) (b : ByteArray) (w : World) (T : Tab w) (hm : b.size ≤ maxLen) :
    Calls Tryz.prog 59 #[.int .i64 id, .int .u8 (k.toNat : Int), .string b] w fun e w' => e = .returned (.tuple #[.string ⟨(sealS id k b.data.toList).toArray⟩, .int .i64 (sealE id b.size)]) ∧ Below w.heap.size w w' := by
  have hsz : b.data.toList.length = b.size := by simp
  by_cases hb : 240 < b.size
  · have e1 : sealE id b.size = 50 := by rw [sealE, if_pos hb]
    have e2 : sealS id k b.data.toList = [] := by rw [sealS, hsz, e1, if_neg (by decide)]
    rw [e1, e2]
    exact (seal_long id k b w hb hm).mono fun e w' ⟨h1, h2⟩ => ⟨h1, by subst h2; exact Below.refl _ _⟩
  · cases hp : putB 4 id
    · have e1 : sealE id b.size = 1 := by rw [sealE, if_neg hb, hp, if_neg (by decide)]
      have e2 : sealS id k b.data.toList = [] := by rw [sealS, hsz, e1, if_neg (by decide)]
      rw [e1, e2]
      exact seal_arg id k b w (by omega) hp
    · have e1 : sealE id b.size = 0 := by rw [sealE, if_neg hb, hp, if_pos rfl]
      have e2 : sealS id k b.data.toList = pageL id.toNat k b.data.toList := by rw [sealS, hsz, e1, if_pos rfl]
      obtain ⟨h0, h1⟩ := (putB4 id).1 hp
      rw [e1, e2]
      have := seal_ok id.toNat k b w T (by omega) (by omega)
      rw [show ((id.toNat : Nat) : Int) = id by omega] at this
      exact this
end

/-! PgOpen -/
section
open Go.RowKit

theorem str_ne {a b : ByteArray} (h : ¬ a = b) : (a.toList == b.toList) = false := by
  rw [beq_eq_false_iff_ne, Lib.toList_data, Lib.toList_data]
  intro e
  exact h (ba_ext e)

theorem rdBytes_small (s : ByteArray) (e n : Int) (h : s.size ≤ maxLen) : (rdBytes s e n).1.size ≤ maxLen := by
  unfold rdBytes
  split
  · unfold maxLen; simp
  · split
    · unfold maxLen; simp
    · split
      · unfold maxLen; simp
      · simp; omega

set_option maxRecDepth 100000 in
set_option maxHeartbeats 2000000 in
theorem parts_any (s : ByteArray) (w : World) (hs : s.size ≤ maxLen) :
    Calls Tryz.prog 95 #[.string s] w fun e w' => e = .returned (.tuple #[.int .u8 ((prK s).toNat : Int), .string (prB s)]) ∧ (prB s).size ≤ maxLen ∧ Below w.heap.size w w' := by
  have C0 : Hid _ := read_any s w
  have R0 : Hid _ := Rd.made s hs w
  have bl : Hid (Below w.heap.size w (w.alloc (.cells #[.string s, .int .i64 0] 188))) := (Below.refl _ _).alloc (Nat.le_refl _) _
  have hK := pr2_byte s
  have hk : (prK s).toNat < 256 := UInt8.toNat_lt _
  unfold prB
  generalize (prK s).toNat = K at *
  go_enter Tryz.func95, Tryz.ntmps95
  go_wp2_with fail
  refine Calls.mono C0.out ?_
  rintro e w0 ⟨rfl, h0⟩
  rw [← h0] at R0 bl
  clear h0 C0
  have C1 : Hid (Calls Tryz.prog 121 #[.pointer (some ⟨w.heap.size, 0, none⟩), .int .i64 8] w0 fun r w' => r = .returned (.string (pr1 s).1) ∧ Rd w.heap.size (pr1 s).2.1 (pr1 s).2.2 w' ∧ Only w.heap.size w0 w') := bytes_any w.heap.size s 0 8 w0 R0.out
  go_wp2_with fail
  refine Calls.mono C1.out ?_
  rintro e w1 ⟨rfl, r1, o1⟩
  have R1 : Hid (Rd w.heap.size (pr1 s).2.1 (pr1 s).2.2 w1) := r1
  have O1 : Hid (Only w.heap.size w0 w1) := o1
  clear r1 o1 C1
  have C2 : Hid (Calls Tryz.prog 122 #[.pointer (some ⟨w.heap.size, 0, none⟩), .int .i64 1] w1 fun r w' => r = .returned (.int .i64 (pr2 s).1) ∧ Rd w.heap.size (pr2 s).2.1 (pr2 s).2.2 w' ∧ Only w.heap.size w1 w') := int_any w.heap.size _ _ 1 w1 R1.out
  rw [hK] at C2
  go_wp2_with fail
  refine Calls.mono C2.out ?_
  rintro e w2 ⟨rfl, r2, o2⟩
  have R2 : Hid (Rd w.heap.size (pr2 s).2.1 (pr2 s).2.2 w2) := r2
  have O2 : Hid (Only w.heap.size w0 w2) := O1.out.trans o2
  clear r2 o2 C2
  have C3 : Hid (Calls Tryz.prog 121 #[.pointer (some ⟨w.heap.size, 0, none⟩), .int .i64 1] w2 fun r w' => r = .returned (.string (pr3 s).1) ∧ Rd w.heap.size (pr3 s).2.1 (pr3 s).2.2 w' ∧ Only w.heap.size w2 w') := bytes_any w.heap.size _ _ 1 w2 R2.out
  go_wp2_with fail
  refine Calls.mono C3.out ?_
  rintro e w3 ⟨rfl, r3, o3⟩
  have R3 : Hid (Rd w.heap.size (pr3 s).2.1 (pr3 s).2.2 w3) := r3
  have O3 : Hid (Only w.heap.size w0 w3) := O2.out.trans o3
  clear r3 o3 C3
  have C4 : Hid (Calls Tryz.prog 122 #[.pointer (some ⟨w.heap.size, 0, none⟩), .int .i64 2] w3 fun r w' => r = .returned (.int .i64 (pr4 s).1) ∧ Rd w.heap.size (pr4 s).2.1 (pr4 s).2.2 w' ∧ Only w.heap.size w3 w') := int_any w.heap.size _ _ 2 w3 R3.out
  go_wp2_with fail
  refine Calls.mono C4.out ?_
  rintro e w4 ⟨rfl, r4, o4⟩
  have R4 : Hid (Rd w.heap.size (pr4 s).2.1 (pr4 s).2.2 w4) := r4
  have O4 : Hid (Only w.heap.size w0 w4) := O3.out.trans o4
  clear r4 o4 C4
  have C5 : Hid (Calls Tryz.prog 121 #[.pointer (some ⟨w.heap.size, 0, none⟩), .int .i64 4] w4 fun r w' => r = .returned (.string (pr5 s).1) ∧ Rd w.heap.size (pr5 s).2.1 (pr5 s).2.2 w' ∧ Only w.heap.size w4 w') := bytes_any w.heap.size _ _ 4 w4 R4.out
  go_wp2_with fail
  refine Calls.mono C5.out ?_
  rintro e w5 ⟨rfl, r5, o5⟩
  have R5 : Hid (Rd w.heap.size (pr5 s).2.1 (pr5 s).2.2 w5) := r5
  have O5 : Hid (Only w.heap.size w0 w5) := O4.out.trans o5
  clear r5 o5 C5
  have C6 : Hid (Calls Tryz.prog 121 #[.pointer (some ⟨w.heap.size, 0, none⟩), .int .i64 (pr4 s).1] w5 fun r w' => r = .returned (.string (pr6 s).1) ∧ Rd w.heap.size (pr6 s).2.1 (pr6 s).2.2 w' ∧ Only w.heap.size w5 w') := bytes_any w.heap.size _ _ _ w5 R5.out
  have Z : Hid ((pr6 s).1.size ≤ maxLen) := rdBytes_small _ _ _ R5.out.sz
  go_wp2_with fail
  refine Calls.mono C6.out ?_
  rintro e w6 ⟨rfl, r6, o6⟩
  have O6 : Hid (Only w.heap.size w0 w6) := O5.out.trans o6
  clear r6 o6 C6
  go_wp2
  go_ret2
  exact ⟨rfl, Z.out, bl.out.trans (O6.out.below (Nat.le_refl _))⟩

theorem ret_open {a b : UInt8 × List UInt8 × Int} (h : a = b) : Ending.returned (.tuple #[.int .u8 (a.1.toNat : Int), .string ⟨a.2.1.toArray⟩, .int .i64 a.2.2]) = .returned (.tuple #[.int .u8 (b.1.toNat : Int), .string ⟨b.2.1.toArray⟩, .int .i64 b.2.2]) := by rw [h]

set_option maxRecDepth 100000 in
set_option maxHeartbeats 2000000 in
theorem open_any (id : Int) (s : ByteArray) (w : World) (T : Tab w) (hs : s.size ≤ maxLen) :
    Calls Tryz.prog 65 #[.int .i64 id, .string s] w fun e w' => e = .returned (.tuple #[.int .u8 ((opn id s.data.toList).1.toNat : Int), .string ⟨(opn id s.data.toList).2.1.toArray⟩, .int .i64 (opn id s.data.toList).2.2]) ∧ Below w.heap.size w w' := by
  have TAB : Hid (Tab w) := T
  have C0 : Hid _ := parts_any s w hs
  have EO : Hid _ := opn_parts id s
  clear T
  have SE : Hid (∀ w1, Tab w1 → (prB s).size ≤ maxLen → Calls Tryz.prog 59 #[.int .i64 id, .int .u8 ((prK s).toNat : Int), .string (prB s)] w1 fun e w' => e = .returned (.tuple #[.string ⟨(sealS id (prK s) (prB s).data.toList).toArray⟩, .int .i64 (sealE id (prB s).size)]) ∧ Below w1.heap.size w1 w') := fun w1 h1 h2 => seal_any id (prK s) (prB s) w1 h1 h2
  generalize (⟨(sealS id (prK s) (prB s).data.toList).toArray⟩ : ByteArray) = A at *
  generalize sealE id (prB s).size = E at *
  generalize hO : opn id s.data.toList = O at *
  have hb : prB s = ⟨(prB s).data.toList.toArray⟩ := rfl
  by_cases h1 : E = 0
  · subst h1
    by_cases h2 : A = s
    · subst h2
      have EO2 : Hid ((prK A, (prB A).data.toList, (0 : Int)) = O) := by
        have := EO.out
        rwa [if_pos ⟨rfl, rfl⟩] at this
      clear EO
      go_enter Tryz.func65, Tryz.ntmps65
      go_wp2_with fail
      refine Calls.mono C0.out ?_
      rintro e w1 ⟨rfl, z1, b1⟩
      have B1 : Hid (Below w.heap.size w w1) := b1
      have C1 : Hid _ := SE.out w1 (TAB.out.below b1) z1
      clear b1 C0 SE z1
      go_wp2_with fail
      refine Calls.mono C1.out ?_
      rintro e w2 ⟨rfl, b2⟩
      have B2 : Hid (Below w.heap.size w w2) := B1.out.trans (b2.mono B1.out.size)
      clear b2 C1
      go_wp2
      go_ret3
      rw [← EO2.out]
      exact ⟨rfl, B2.out⟩
    · have EO2 : Hid (((0 : UInt8), ([] : List UInt8), (3 : Int)) = O) := by
        have := EO.out
        rwa [if_neg (fun c => h2 c.2)] at this
      have hne := str_ne h2
      clear EO
      go_enter Tryz.func65, Tryz.ntmps65
      go_wp2_with fail
      refine Calls.mono C0.out ?_
      rintro e w1 ⟨rfl, z1, b1⟩
      have B1 : Hid (Below w.heap.size w w1) := b1
      have C1 : Hid _ := SE.out w1 (TAB.out.below b1) z1
      clear b1 C0 SE z1
      go_wp2_with fail
      refine Calls.mono C1.out ?_
      rintro e w2 ⟨rfl, b2⟩
      have B2 : Hid (Below w.heap.size w w2) := B1.out.trans (b2.mono B1.out.size)
      clear b2 C1
      go_wp2
      go_ret3
      rw [← EO2.out]
      exact ⟨rfl, B2.out⟩
  · have EO2 : Hid (((0 : UInt8), ([] : List UInt8), (3 : Int)) = O) := by
      have := EO.out
      rwa [if_neg (fun c => h1 c.1)] at this
    have hne : (E != 0) = true := by rw [bne_iff_ne]; exact h1
    clear EO h1
    go_enter Tryz.func65, Tryz.ntmps65
    go_wp2_with fail
    refine Calls.mono C0.out ?_
    rintro e w1 ⟨rfl, z1, b1⟩
    have B1 : Hid (Below w.heap.size w w1) := b1
    have C1 : Hid _ := SE.out w1 (TAB.out.below b1) z1
    clear b1 C0 SE z1
    go_wp2_with fail
    refine Calls.mono C1.out ?_
    rintro e w2 ⟨rfl, b2⟩
    have B2 : Hid (Below w.heap.size w w2) := B1.out.trans (b2.mono B1.out.size)
    clear b2 C1
    go_wp2
    go_ret3
    rw [← EO2.out]
    exact ⟨rfl, B2.out⟩
end

/-! PgWorks -/
section
open Go.RowKit

theorem opn_not {id other : Int} {k : UInt8} {b : List UInt8} (h : sealE id b.length = 0) (ne : other ≠ id) : opn other (pageL id.toNat k b) = (0, [], 3) := by
  rcases opn_cases other (pageL id.toNat k b) with ⟨l, c, _, _, h3⟩ | ⟨_, h3⟩
  · exact absurd ((opn_other h).1 (by rw [h3])) ne
  · exact h3

/-- The example's page. -/
def pab : ByteArray := ⟨(pageL 7 1 [97, 98]).toArray⟩
theorem pab_size : pab.size = 256 := by rw [pab, ba_size, pageL_length _ _ _ (by decide)]
theorem pab_part : pab.extract 4 19 = ⟨#[0, 0, 0, 7, 1, 0, 0, 2, 0, 0, 0, 0, 97, 98, 0]⟩ := by decide +kernel
theorem pab_seal : sealS 7 1 [97, 98] = pageL 7 1 [97, 98] := by rw [sealS, if_pos (by decide)]; rfl
end

/-! PgUse -/
section
open Go.RowKit

theorem byte_of (n : Int) (h : 0 ≤ n ∧ n ≤ 255) : ∃ x : UInt8, n = (x.toNat : Int) := ⟨UInt8.ofNat n.toNat, by simp; omega⟩
/-- What Seal tells, where it is told. -/
theorem seal_yes {id : Int} {k : UInt8} {b : ByteArray} (w : World) (T : Tab w) (hm : b.size ≤ maxLen) (h : sealE id b.size = 0) :
    Calls Tryz.prog 59 #[.int .i64 id, .int .u8 (k.toNat : Int), .string b] w fun e w' => e = .returned (.tuple #[.string ⟨(pageL id.toNat k b.data.toList).toArray⟩, .int .i64 0]) ∧ Below w.heap.size w w' := by
  have := seal_any id k b w T hm
  rw [sealS, show b.data.toList.length = b.size by simp, h, if_pos rfl] at this
  exact this
theorem seal_no {id : Int} {k : UInt8} {b : ByteArray} (w : World) (T : Tab w) (hm : b.size ≤ maxLen) (h : sealE id b.size ≠ 0) :
    Calls Tryz.prog 59 #[.int .i64 id, .int .u8 (k.toNat : Int), .string b] w fun e w' => e = .returned (.tuple #[.string ⟨#[]⟩, .int .i64 (sealE id b.size)]) ∧ Below w.heap.size w w' := by
  have := seal_any id k b w T hm
  rw [sealS, show b.data.toList.length = b.size by simp, if_neg h] at this
  exact this
/-- What Open tells, where it is told. -/
theorem open_yes {id : Int} {k : UInt8} {b : List UInt8} {s : ByteArray} (w : World) (T : Tab w) (hs : s = ⟨(pageL id.toNat k b).toArray⟩) (h : sealE id b.length = 0) :
    Calls Tryz.prog 65 #[.int .i64 id, .string s] w fun e w' => e = .returned (.tuple #[.int .u8 (k.toNat : Int), .string ⟨b.toArray⟩, .int .i64 0]) ∧ Below w.heap.size w w' := by
  subst hs
  have := open_any id ⟨(pageL id.toNat k b).toArray⟩ w T (by rw [ba_size, pageL_length _ _ _ (sealE_zero.1 h).1]; decide)
  rw [show (⟨(pageL id.toNat k b).toArray⟩ : ByteArray).data.toList = pageL id.toNat k b from rfl, opn_page id k b h] at this
  exact this
theorem open_no {id : Int} {s : ByteArray} (w : World) (T : Tab w) (hm : s.size ≤ maxLen) (h : opn id s.data.toList = (0, [], 3)) :
    Calls Tryz.prog 65 #[.int .i64 id, .string s] w fun e w' => e = .returned (.tuple #[.int .u8 0, .string ⟨#[]⟩, .int .i64 3]) ∧ Below w.heap.size w w' := by
  have := open_any id s w T hm
  rw [h] at this
  exact this
theorem opn_yes {id : Int} {s : ByteArray} (h : (opn id s.data.toList).2.2 = 0) : ∃ k b, s = ⟨(pageL id.toNat k b).toArray⟩ ∧ sealE id b.length = 0 := by
  obtain ⟨k, b, h1, h2, _⟩ := opn_inv h
  exact ⟨k, b, by rw [← h2], h1⟩
theorem opn_nay {id : Int} {s : List UInt8} (h : (opn id s).2.2 ≠ 0) : opn id s = (0, [], 3) := by
  rcases opn_cases id s with ⟨k, b, _, _, h3⟩ | ⟨_, h3⟩
  · rw [h3] at h; exact absurd rfl h
  · exact h3
end

/-! PgRef -/
section
open Go.RowKit

theorem below_more {B : Nat} {u w : World} (h : Below B u w) (n : Nat) : Below B u (w.drewN n) := ⟨h.os, h.tape, h.output, h.size, h.block⟩

theorem beNat_take_le (l : List UInt8) (k : Nat) (h : k ≤ 4) : beNat (l.take k) < 4294967296 := by
  have h1 := beNat_lt (l.take k)
  have h2 : (l.take k).length ≤ 4 := by simp; omega
  have h3 : 256 ^ (l.take k).length ≤ 256 ^ 4 := Nat.pow_le_pow_right (by omega) h2
  have h4 : (256 : Nat) ^ 4 = 4294967296 := by decide
  omega

set_option maxHeartbeats 1000000 in
theorem refInt (x : ByteArray) (w : World) (hx : x.size ≤ 4) :
    Calls Tryz.prog 104 #[.string x] w fun r w' => r = .returned (.int .i64 ((beNat x.data.toList : Nat) : Int)) ∧ w = w' := by
  go_enter Tryz.func104, Tryz.ntmps104
  go_wp2
  go_loop [3, 4] (fun v i => ∃ k M : Nat, k ≤ x.size ∧ i = .int .i64 k ∧ v = .int .i64 M ∧ M < 4294967296 ∧ Hid (M = beNat (x.data.toList.take k))) (fun _ i => x.size - (intOf i).toNat)
  case atStart => exact ⟨0, 0, Nat.zero_le _, rfl, rfl, by decide, rfl⟩
  case round =>
    obtain ⟨k, M, hk, rfl, rfl, hM, eM⟩ := hrel
    by_cases hlt : k < x.size
    · have T : Hid (beNat (x.data.toList.take (k + 1)) = beNat (x.data.toList.take k) * 256 + x[k].toNat) := beNat_take x.data.toList k (by simpa using hlt)
      have B := beNat_take_le x.data.toList (k + 1) (by omega)
      have B2 := beNat_take_lt x.data.toList k (by omega)
      have C8 : x[k].toNat < 256 := UInt8.toNat_lt _
      rw [T.out] at B
      rw [← eM.out] at B B2
      go_wp2
      refine ⟨⟨k + 1, M * 256 + x[k].toNat, by omega, by go_num, by go_num, by omega, ?_⟩, by simp [intOf]; omega⟩
      rw [Hid, T.out, ← eM.out]
    · have T : Hid (x.data.toList.take k = x.data.toList) := List.take_of_length_le (by simp; omega)
      go_wp2
      go_ret
      rw [← T.out, ← eM.out]
      exact ⟨rfl, rfl⟩

theorem qok_put (N : Nat) : qok 4 N = putB 4 (N : Int) := by
  by_cases h : N < 4294967296
  · have h1 : putB 4 (N : Int) = true := (putB4 _).2 ⟨by omega, by omega⟩
    rw [h1]
    unfold qok
    rw [show N / 256 ^ 4 = 0 by rw [show 256 ^ 4 = 4294967296 by decide]; omega]
    rfl
  · have h1 : putB 4 (N : Int) = false := by
      rw [Bool.eq_false_iff]
      intro e
      have := (putB4 _).1 e
      omega
    rw [h1]
    unfold qok
    rw [show (256 ^ 4 : Nat) = 4294967296 by decide, beq_eq_false_iff_ne]
    omega

theorem conv_two (k : UInt8) (w : World) :
    Sem.run Tryz.prog (convert 66 9 (.slice (some ⟨w.heap.size, 0, none⟩) 2 2)) (w.alloc (.cells #[.int .u8 (k.toNat : Int), .int .u8 0] 5)) = .ok (.string ⟨#[k, 0]⟩) (w.alloc (.cells #[.int .u8 (k.toNat : Int), .int .u8 0] 5)) :=
  conv_new [k, 0] #[.int .u8 (k.toNat : Int), .int .u8 0] w 2 2 (by simp) rfl

theorem head_ba (n : Nat) (k : UInt8) (b : ByteArray) :
    ((((⟨(beBytes 4 n).toArray⟩ : ByteArray) ++ ⟨#[k, 0]⟩) ++ ⟨(beBytes 2 b.size).toArray⟩) ++ ⟨#[0, 0, 0, 0]⟩) ++ b = ⟨(beBytes 4 n ++ ([k] ++ ([0] ++ (beBytes 2 b.data.toList.length ++ (List.replicate 4 0 ++ b.data.toList))))).toArray⟩ := by
  apply ba_ext
  simp only [ByteArray.data_append, Array.toList_append, List.append_assoc]
  rw [show b.data.toList.length = b.size by simp]
  rfl

theorem ba_app (l m : List UInt8) : (⟨l.toArray⟩ : ByteArray) ++ ⟨m.toArray⟩ = ⟨(l ++ m).toArray⟩ := by
  apply ba_ext
  simp [ByteArray.data_append]

/-- What the document's Seal answers. -/
def rSealB (id : Int) (n : Nat) : Bool := decide (sealE id n = 0)

set_option maxRecDepth 100000 in
set_option maxHeartbeats 2000000 in
theorem refSeal_ok (n : Nat) (k : UInt8) (b : ByteArray) (w : World) (hn : n < 4294967296) (hb : b.size ≤ 240) :
    Calls Tryz.prog 80 #[.int .i64 n, .int .u8 (k.toNat : Int), .string b] w fun e w' => e = .returned (.tuple #[.string ⟨(pageL n k b.data.toList).toArray⟩, .bool true]) ∧ Below w.heap.size w w' := by
  have hq : qok 4 n = true := by rw [qok_put]; exact (putB4 _).2 ⟨by omega, by omega⟩
  have hbl : b.data.toList.length = b.size := by simp
  obtain ⟨H, eH⟩ : ∃ H : List UInt8, H = beBytes 4 n ++ ([k] ++ ([0] ++ (beBytes 2 b.data.toList.length ++ (List.replicate 4 0 ++ b.data.toList)))) := ⟨_, rfl⟩
  have hH : H.length = 12 + b.size := by rw [eH]; simp [beBytes_length]; omega
  have ER : Hid (restL n k b.data.toList = H ++ List.replicate (240 - b.size) 0) := by
    show _ = _
    rw [eH, restL, hbl]
    simp only [List.append_assoc]
  have EH : Hid _ := head_ba n k b
  rw [← eH] at EH
  have l4 : (beBytes 4 n).length = 4 := beBytes_length _ _
  have l2 : (beBytes 2 b.size).length = 2 := beBytes_length _ _
  have C1 : Hid _ := qput4 n w (by omega)
  rw [hq] at C1
  have EP : Hid (pageL n k b.data.toList = beBytes 4 (sumN (restL n k b.data.toList)) ++ restL n k b.data.toList) := rfl
  have hS : sumN (restL n k b.data.toList) < 4294967296 := sumN_lt _
  have hR : (restL n k b.data.toList).length = 252 := restL_length _ _ _ (by simpa using hb)
  generalize restL n k b.data.toList = R at *
  generalize pageL n k b.data.toList = G at *
  generalize beBytes 4 n = X at *
  have C2 : Hid (∀ w1, Calls Tryz.prog 107 #[.int .i64 2, .int .i64 (b.size : Nat)] w1 fun r w' => r = .returned (.tuple #[.string ⟨(beBytes 2 b.size).toArray⟩, .bool (qok 2 b.size)]) ∧ Below w1.heap.size w1 w') := fun w1 => qput2 b.size w1 (by omega)
  generalize beBytes 2 b.size = Y at *
  generalize qok 2 b.size = y at *
  clear eH hq
  go_enter Tryz.func80, Tryz.ntmps80
  go_wp2_with fail
  refine Calls.mono C1.out ?_
  rintro e w1 ⟨rfl, b1⟩
  have B1 : Hid (Below w.heap.size w w1) := b1
  clear b1 C1
  have D : Hid _ := C2.out w1
  go_wp2_with fail
  refine Calls.mono D.out ?_
  rintro e w2 ⟨rfl, b2⟩
  have B2 : Hid (Below w.heap.size w w2) := B1.out.trans (b2.mono B1.out.size)
  clear b2 C2 D
  have hcv := conv_two k w2
  obtain ⟨w3, e3⟩ : ∃ w3, w3 = w2.alloc (.cells #[.int .u8 (k.toNat : Int), .int .u8 0] 5) := ⟨_, rfl⟩
  have B3 : Hid (Below w.heap.size w w3) := by show Below _ _ _; rw [e3]; exact B2.out.alloc B2.out.size _
  go_wp2
  rw [← e3, EH.out]
  clear e3 hcv
  go_loopg [12] 240 (fun gk s12 wr => ∃ (j : Nat) (t : ByteArray), s12 = .string t ∧ t.size = 12 + b.size + j ∧ j ≤ 240 - b.size ∧ 240 - b.size - j ≤ gk ∧ Hid (t = ⟨(H ++ List.replicate j 0).toArray⟩) ∧ wr = w3)
  case atStart => exact ⟨0, _, rfl, by rw [ba_size]; omega, by omega, by omega, by simp [Hid], rfl⟩
  case round =>
    obtain ⟨j, t, rfl, hsz, hj, hge, HT, rfl⟩ := hrel
    by_cases hlt : j < 240 - b.size
    · have hlt' : (t.size : Int) < 252 := by omega
      go_wp2
      go_roundg (240 - b.size - (j + 1))
      case measure => omega
      case rel =>
        refine ⟨j + 1, t ++ ⟨#[0]⟩, rfl, ?_, by omega, Nat.le_refl _, ?_, rfl⟩
        · rw [ByteArray.size_append, hsz]; rfl
        · show _ = _
          rw [HT.out, show (⟨#[0]⟩ : ByteArray) = ⟨[0].toArray⟩ from rfl, ba_app, List.append_assoc]
          congr 3
          exact (List.replicate_succ' ..).symm
    · have ET : Hid (t = ⟨R.toArray⟩) := by
        show _ = _
        rw [HT.out, ER.out, show j = 240 - b.size by omega]
      have hlt' : ¬ (t.size : Int) < 252 := by omega
      have ht : t.size = 252 := by omega
      have D1 : Hid _ := refSum t wr (by rw [ht]; decide)
      rw [show t.data.toList = R by rw [ET.out]] at D1
      have D2 : Hid _ := qput4 (sumN R) wr (by omega)
      have l4s : (beBytes 4 (sumN R)).length = 4 := beBytes_length _ _
      clear hsz hj hge hlt HT hlt'
      generalize sumN R = S at *
      generalize beBytes 4 S = Z at *
      go_wp2_with fail
      refine Calls.mono D1.out ?_
      rintro e w5 ⟨rfl, rfl⟩
      go_wp2_with fail
      refine Calls.mono D2.out ?_
      rintro e w6 ⟨rfl, b6⟩
      have B6 : Hid (Below w.heap.size w w6) := B3.out.trans (b6.mono B3.out.size)
      clear b6 D1 D2
      go_wp2
      go_ret2
      rw [EP.out, ET.out, ba_app]
      exact ⟨rfl, B6.out⟩

theorem refSeal_no (id : Int) (k : UInt8) (b : ByteArray) (w : World) (hi : id ≤ 9223372036854775807) (hm : b.size ≤ maxLen) (h : sealE id b.size ≠ 0) :
    Calls Tryz.prog 80 #[.int .i64 id, .int .u8 (k.toNat : Int), .string b] w fun e w' => e = .returned (.tuple #[.string ⟨#[]⟩, .bool false]) ∧ Below w.heap.size w w' := by
  unfold maxLen at hm
  have HN : Hid (sealE id b.size ≠ 0) := h
  clear h
  by_cases hn : id < 0
  · have C1 : Hid _ := qput_neg id w hn
    go_enter Tryz.func80, Tryz.ntmps80
    go_wp2_with fail
    refine Calls.mono C1.out ?_
    rintro e w1 ⟨rfl, rfl⟩
    go_wp2
    go_ret2
    exact ⟨rfl, Below.refl _ _⟩
  · obtain ⟨n, rfl⟩ := Int.eq_ofNat_of_zero_le (Int.not_lt.1 hn)
    have C1 : Hid _ := qput4 n w hi
    rw [qok_put] at C1
    cases hp : putB 4 (n : Int)
    · rw [hp] at C1
      clear hp
      go_enter Tryz.func80, Tryz.ntmps80
      go_wp2_with fail
      refine Calls.mono C1.out ?_
      rintro e w1 ⟨rfl, b1⟩
      have B1 : Hid (Below w.heap.size w w1) := b1
      clear b1
      go_wp2
      go_ret2
      exact ⟨rfl, B1.out⟩
    · have hb : 240 < b.size := by
        rcases Nat.lt_or_ge 240 b.size with h | h
        · exact h
        · exact absurd (sealE_zero.2 ⟨h, (putB4 _).1 hp⟩) HN.out
      rw [hp] at C1
      clear hp
      go_enter Tryz.func80, Tryz.ntmps80
      go_wp2_with fail
      refine Calls.mono C1.out ?_
      rintro e w1 ⟨rfl, b1⟩
      have B1 : Hid (Below w.heap.size w w1) := b1
      clear b1
      go_wp2
      go_ret2
      exact ⟨rfl, B1.out⟩

theorem refSeal_any (id : Int) (k : UInt8) (b : ByteArray) (w : World) (hi : id ≤ 9223372036854775807) (hm : b.size ≤ maxLen) :
    Calls Tryz.prog 80 #[.int .i64 id, .int .u8 (k.toNat : Int), .string b] w fun e w' => e = .returned (.tuple #[.string ⟨(sealS id k b.data.toList).toArray⟩, .bool (rSealB id b.size)]) ∧ Below w.heap.size w w' := by
  have hsz : b.data.toList.length = b.size := by simp
  unfold rSealB
  by_cases h : sealE id b.size = 0
  · rw [sealS, hsz, if_pos h, decide_eq_true h]
    obtain ⟨h1, h2, h3⟩ := sealE_zero.1 h
    have := refSeal_ok id.toNat k b w (by omega) h1
    rw [show ((id.toNat : Nat) : Int) = id by omega] at this
    exact this
  · rw [sealS, hsz, if_neg h, decide_eq_false h]
    exact refSeal_no id k b w hi hm h

/-- What the document's Open answers. -/
def rOpnB (id : Int) (s : List UInt8) : Bool := decide ((opn id s).2.2 = 0)

theorem opn_len {id : Int} {s : List UInt8} (h : s.length ≠ 256) : opn id s = (0, [], 3) := by
  rcases opn_cases id s with ⟨k, b, h1, rfl, _⟩ | ⟨_, h3⟩
  · exact absurd (pageL_length _ _ _ (sealE_zero.1 h1).1) h
  · exact h3
theorem opn_long {id : Int} {s : List UInt8} (h : 240 < opN s) : opn id s = (0, [], 3) := by
  rcases opn_cases id s with ⟨k, b, h1, rfl, _⟩ | ⟨_, h3⟩
  · have := (sealE_zero.1 h1).1
    rw [opN_page _ _ _ this] at h
    omega
  · exact h3

theorem extract_list (s : ByteArray) (a c : Nat) (_ : c ≤ s.size) : (s.extract a c).data.toList = (s.data.toList.drop a).take (c - a) := by
  rw [Lib.extract_data]

set_option maxRecDepth 100000 in
set_option maxHeartbeats 2000000 in
theorem refOpen_any (id : Int) (s : ByteArray) (w : World) (hi : id ≤ 9223372036854775807) (hm : s.size ≤ maxLen) :
    Calls Tryz.prog 78 #[.int .i64 id, .string s] w fun e w' => e = .returned (.tuple #[.int .u8 ((opn id s.data.toList).1.toNat : Int), .string ⟨(opn id s.data.toList).2.1.toArray⟩, .bool (rOpnB id s.data.toList)]) ∧ Below w.heap.size w w' := by
  have hmm := hm
  unfold maxLen at hmm
  have hsz : s.data.toList.length = s.size := by simp
  unfold rOpnB
  by_cases hz : s.size = 256
  · have C1 : Hid _ := refInt (s.extract 10 12) w (by simp; omega)
    rw [extract_list s 10 12 (by omega)] at C1
    have EN : Hid (opN s.data.toList = beNat ((s.data.toList.drop 10).take (12 - 10))) := rfl
    rw [← EN.out] at C1
    by_cases hl : 240 < opN s.data.toList
    · rw [opn_long hl]
      generalize opN s.data.toList = N at *
      go_enter Tryz.func78, Tryz.ntmps78
      go_wp2_with fail
      refine Calls.mono C1.out ?_
      rintro e w1 ⟨rfl, rfl⟩
      go_wp2
      go_ret3
      exact ⟨rfl, Below.refl _ _⟩
    · have hk : s[8]'(by omega) = opK s.data.toList := by
        unfold opK
        rw [List.getD_eq_getElem?_getD, List.getElem?_eq_getElem (by simp; omega)]
        rfl
      have hb : s.extract 16 (16 + opN s.data.toList) = ⟨(opB s.data.toList).toArray⟩ := by
        apply ba_ext
        rw [extract_list s 16 _ (by omega), Nat.add_sub_cancel_left]
        rfl
      have hbz : (opB s.data.toList).length ≤ 240 := by unfold opB; rw [List.length_take]; omega
      have EO : Hid (opn id s.data.toList = _) := opn.eq_1 id s.data.toList
      have C2 : Hid (∀ w1, Calls Tryz.prog 80 #[.int .i64 id, .int .u8 ((opK s.data.toList).toNat : Int), .string ⟨(opB s.data.toList).toArray⟩] w1 fun e w' => e = .returned (.tuple #[.string ⟨(sealS id (opK s.data.toList) (opB s.data.toList)).toArray⟩, .bool (decide (sealE id (opB s.data.toList).length = 0))]) ∧ Below w1.heap.size w1 w') := fun w1 => by
        have := refSeal_any id (opK s.data.toList) ⟨(opB s.data.toList).toArray⟩ w1 hi (by rw [ba_size]; unfold maxLen; omega)
        rw [ba_size] at this
        exact this
      generalize hO : opn id s.data.toList = O at *
      generalize opN s.data.toList = N at *
      generalize opK s.data.toList = K at *
      generalize opB s.data.toList = Q at *
      have hB : ((⟨(sealS id K Q).toArray⟩ : ByteArray) = s) ↔ sealS id K Q = s.data.toList := ⟨fun e => by rw [← e], fun e => by rw [e]⟩
      by_cases h1 : sealE id Q.length = 0
      · have hse : sealS id K Q = pageL id.toNat K Q := by rw [sealS, if_pos h1]
        by_cases h2 : sealS id K Q = s.data.toList
        · have EO2 : Hid (O = (K, Q, 0)) := by
            show _ = _
            rw [EO.out, if_pos ⟨h1, by rw [← h2, hse]⟩]
          rw [EO2.out]
          have hs2 := hB.2 h2
          have C3 : Hid (∀ w1, Calls Tryz.prog 80 #[.int .i64 id, .int .u8 (K.toNat : Int), .string ⟨Q.toArray⟩] w1 fun e w' => e = .returned (.tuple #[.string s, .bool true]) ∧ Below w1.heap.size w1 w') := fun w1 => by
            have := C2.out w1
            rw [hs2, decide_eq_true h1] at this
            exact this
          clear C2 EO hse h1 h2 hs2 hB hO EO2
          go_enter Tryz.func78, Tryz.ntmps78
          go_wp2_with fail
          refine Calls.mono C1.out ?_
          rintro e w1 ⟨rfl, rfl⟩
          have D : Hid _ := C3.out w
          clear C1 C3
          go_wp2_with fail
          refine Calls.mono D.out ?_
          rintro e w2 ⟨rfl, b2⟩
          have B2 : Hid (Below w.heap.size w w2) := b2
          clear b2 D
          go_wp2
          go_ret3
          exact ⟨rfl, B2.out⟩
        · have EO2 : Hid (O = (0, [], 3)) := by
            show _ = _
            rw [EO.out, if_neg (fun c => h2 (by rw [hse, ← c.2]))]
          rw [EO2.out]
          have hne := str_ne (fun e => h2 (hB.1 e))
          have C3 : Hid (∀ w1, Calls Tryz.prog 80 #[.int .i64 id, .int .u8 (K.toNat : Int), .string ⟨Q.toArray⟩] w1 fun e w' => e = .returned (.tuple #[.string ⟨(sealS id K Q).toArray⟩, .bool true]) ∧ Below w1.heap.size w1 w') := fun w1 => by
            have := C2.out w1
            rw [decide_eq_true h1] at this
            exact this
          clear C2 EO hse h1 h2 hB hO EO2
          generalize (⟨(sealS id K Q).toArray⟩ : ByteArray) = A at *
          go_enter Tryz.func78, Tryz.ntmps78
          go_wp2_with fail
          refine Calls.mono C1.out ?_
          rintro e w1 ⟨rfl, rfl⟩
          have D : Hid _ := C3.out w
          clear C1 C3
          go_wp2_with fail
          refine Calls.mono D.out ?_
          rintro e w2 ⟨rfl, b2⟩
          have B2 : Hid (Below w.heap.size w w2) := b2
          clear b2 D
          go_wp2
          go_ret3
          exact ⟨rfl, B2.out⟩
      · have EO2 : Hid (O = (0, [], 3)) := by
          show _ = _
          rw [EO.out, if_neg (fun c => h1 c.1)]
        rw [EO2.out]
        have C3 : Hid (∀ w1, Calls Tryz.prog 80 #[.int .i64 id, .int .u8 (K.toNat : Int), .string ⟨Q.toArray⟩] w1 fun e w' => e = .returned (.tuple #[.string ⟨(sealS id K Q).toArray⟩, .bool false]) ∧ Below w1.heap.size w1 w') := fun w1 => by
          have := C2.out w1
          rw [decide_eq_false h1] at this
          exact this
        clear C2 EO h1 hB hO EO2
        generalize (⟨(sealS id K Q).toArray⟩ : ByteArray) = A at *
        go_enter Tryz.func78, Tryz.ntmps78
        go_wp2_with fail
        refine Calls.mono C1.out ?_
        rintro e w1 ⟨rfl, rfl⟩
        have D : Hid _ := C3.out w
        clear C1 C3
        go_wp2_with fail
        refine Calls.mono D.out ?_
        rintro e w2 ⟨rfl, b2⟩
        have B2 : Hid (Below w.heap.size w w2) := b2
        clear b2 D
        go_wp2
        go_ret3
        exact ⟨rfl, B2.out⟩
  · rw [opn_len (by omega)]
    have hne : ((s.size : Int) != 256) = true := by rw [bne_iff_ne]; omega
    clear hz
    go_enter Tryz.func78, Tryz.ntmps78
    go_wp2
    go_ret3
    exact ⟨rfl, Below.refl _ _⟩
end

end Go.Proofs.YtnngfkjbbedkpaaGreatDoor

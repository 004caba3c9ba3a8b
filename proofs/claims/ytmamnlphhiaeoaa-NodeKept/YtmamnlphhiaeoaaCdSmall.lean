/-
  The walks of package codec's small functions (isSize, fail, Left, Err, End, Read, Bytes): what each call does to the world, said of a Reader's two cells.
-/
import Derived.Test.YtmamnlphhiaeoaaRows
import Derived.WalkKit
import Derived.WalkSpells
import Derived.WalkLawsBesides
namespace Go.Proofs.Ytmamnlphhiaeoaa
open Go.RowKit

/-- A size that the codec knows. -/
def szB (n : Int) : Bool := decide (n = 1 ∨ n = 2 ∨ n = 4)

/-- Block b is a Reader: what is left of its text, and its error. -/
structure Rd (b : Nat) (s : ByteArray) (e : Int) (w : World) : Prop where
  blk : w.heap[b]? = some (.cells #[.string s, .int .i64 e] 102 (0, 0))
  sz : s.size ≤ maxLen

/-- Nothing has turned but block b; no block came. -/
structure Only (b : Nat) (w w' : World) : Prop where
  os : w'.os = w.os
  tape : w'.tape = w.tape
  output : w'.output = w.output
  size : w'.heap.size = w.heap.size
  block : ∀ k, k ≠ b → w'.heap[k]? = w.heap[k]?

theorem Only.refl (b : Nat) (w : World) : Only b w w := ⟨rfl, rfl, rfl, rfl, fun _ _ => rfl⟩
theorem Only.trans {b : Nat} {u v w : World} (h : Only b u v) (k : Only b v w) : Only b u w :=
  ⟨k.os.trans h.os, k.tape.trans h.tape, k.output.trans h.output, k.size.trans h.size, fun i hi => (k.block i hi).trans (h.block i hi)⟩
theorem Only.setCell (b o : Nat) (w : World) (v : Value) : Only b w (w.setCell ⟨b, o, none⟩ v) :=
  ⟨rfl, rfl, rfl, by simp [World.setCell], fun k hk => Below.heap_setCell _ _ _ _ hk⟩
theorem Only.drewN {b : Nat} {u w : World} (h : Only b u w) (n : Nat) : Only b u (w.drewN n) := ⟨h.os, h.tape, h.output, h.size, h.block⟩
theorem Only.below {B b : Nat} {w w' : World} (h : Only b w w') (hB : B ≤ b) : Below B w w' :=
  ⟨h.os, h.tape, h.output, Nat.le_of_eq h.size.symm, fun k hk => h.block k (by omega)⟩

theorem Rd.lt {b : Nat} {s : ByteArray} {e : Int} {w : World} (h : Rd b s e w) : b < w.heap.size := by
  have := h.blk
  rw [Array.getElem?_eq_some_iff] at this
  exact this.1
theorem Rd.c0 {b : Nat} {s : ByteArray} {e : Int} {w : World} (h : Rd b s e w) : w.cell? ⟨b, 0, none⟩ = some (.string s) := by simp [World.cell?, h.blk]
theorem Rd.c1 {b : Nat} {s : ByteArray} {e : Int} {w : World} (h : Rd b s e w) : w.cell? ⟨b, 1, none⟩ = some (.int .i64 e) := by simp [World.cell?, h.blk]
theorem Rd.f0 {b : Nat} {s : ByteArray} {e : Int} {w : World} (h : Rd b s e w) : w.frozen? ⟨b, 0, none⟩ = false := by simp [World.frozen?, h.blk]
theorem Rd.f1 {b : Nat} {s : ByteArray} {e : Int} {w : World} (h : Rd b s e w) : w.frozen? ⟨b, 1, none⟩ = false := by simp [World.frozen?, h.blk]
theorem Rd.set0 {b : Nat} {s : ByteArray} {e : Int} {w : World} (h : Rd b s e w) (t : ByteArray) (ht : t.size ≤ maxLen) : Rd b t e (w.setCell ⟨b, 0, none⟩ (.string t)) :=
  ⟨by simp [World.setCell, Array.getElem?_modify, h.blk], ht⟩
theorem Rd.set1 {b : Nat} {s : ByteArray} {e : Int} {w : World} (h : Rd b s e w) (n : Int) : Rd b s n (w.setCell ⟨b, 1, none⟩ (.int .i64 n)) :=
  ⟨by simp [World.setCell, Array.getElem?_modify, h.blk], h.sz⟩
theorem Rd.keep {b c : Nat} {s : ByteArray} {e : Int} {w w' : World} (h : Rd b s e w) (k : Only c w w') (hb : b ≠ c) : Rd b s e w' := ⟨(k.block b hb).trans h.blk, h.sz⟩
theorem Rd.below {b B : Nat} {s : ByteArray} {e : Int} {w w' : World} (h : Rd b s e w) (k : Below B w w') (hb : b < B) : Rd b s e w' := ⟨(k.block b hb).trans h.blk, h.sz⟩
theorem Rd.made (s : ByteArray) (hs : s.size ≤ maxLen) (w : World) : Rd w.heap.size s 0 (w.alloc (.cells #[.string s, .int .i64 0] 102)) :=
  ⟨by show (w.heap.push _)[w.heap.size]? = _; simp, hs⟩

theorem ret_bool {a b : Bool} (h : a = b) : Ending.returned (.bool a) = .returned (.bool b) := by rw [h]
theorem ret_int {k : IntKind} {a b : Int} (h : a = b) : Ending.returned (.int k a) = .returned (.int k b) := by rw [h]

set_option maxHeartbeats 400000 in
theorem isSize_any (n : Int) (w : World) :
    Calls Try.prog 66 #[.int .i64 n] w fun e w' => e = .returned (.bool (szB n)) ∧ w = w' := by
  by_cases h1 : n = 1
  · subst h1
    go_enter Try.func66, Try.ntmps66
    go_wp2
    go_ret
    exact ⟨rfl, rfl⟩
  · by_cases h2 : n = 2
    · subst h2
      go_enter Try.func66, Try.ntmps66
      go_wp2
      go_ret
      exact ⟨rfl, rfl⟩
    · by_cases h4 : n = 4
      · subst h4
        go_enter Try.func66, Try.ntmps66
        go_wp2
        go_ret
        exact ⟨rfl, rfl⟩
      · have e1 : (n == 1) = false := beq_eq_false_iff_ne.2 h1
        have e2 : (n == 2) = false := beq_eq_false_iff_ne.2 h2
        have e4 : (n == 4) = false := beq_eq_false_iff_ne.2 h4
        have hs : szB n = false := by simp [szB, h1, h2, h4]
        have HS : Hid (szB n = false) := hs
        clear hs h1 h2 h4
        go_enter Try.func66, Try.ntmps66
        go_wp2
        go_ret
        exact ⟨ret_bool HS.out.symm, rfl⟩

set_option maxHeartbeats 400000 in
theorem left_any (b : Nat) (s : ByteArray) (e : Int) (w : World) (h : Rd b s e w) :
    Calls Try.prog 62 #[.pointer (some ⟨b, 0, none⟩)] w fun r w' => r = .returned (.int .i64 s.size) ∧ w = w' := by
  have c0 := h.c0; have c1 := h.c1; have f0 := h.f0; have f1 := h.f1; have lt := h.lt
  clear h
  go_enter Try.func62, Try.ntmps62
  go_wp2
  go_ret
  exact ⟨rfl, rfl⟩

set_option maxHeartbeats 400000 in
theorem err_any (b : Nat) (s : ByteArray) (e : Int) (w : World) (h : Rd b s e w) :
    Calls Try.prog 61 #[.pointer (some ⟨b, 0, none⟩)] w fun r w' => r = .returned (.int .i64 e) ∧ w = w' := by
  have c0 := h.c0; have c1 := h.c1; have f0 := h.f0; have f1 := h.f1; have lt := h.lt
  clear h
  go_enter Try.func61, Try.ntmps61
  go_wp2
  go_ret
  exact ⟨rfl, rfl⟩

set_option maxHeartbeats 400000 in
theorem read_any (s : ByteArray) (w : World) :
    Calls Try.prog 59 #[.string s] w fun r w' => r = .returned (.pointer (some ⟨w.heap.size, 0, none⟩)) ∧ w' = w.alloc (.cells #[.string s, .int .i64 0] 102) := by
  go_enter Try.func59, Try.ntmps59
  go_wp2
  go_ret
  exact ⟨rfl, rfl⟩

set_option maxHeartbeats 400000 in
theorem fail_ok (b : Nat) (s : ByteArray) (n : Int) (w : World) (h : Rd b s 0 w) :
    Calls Try.prog 67 #[.pointer (some ⟨b, 0, none⟩), .int .i64 n] w fun r w' => r = .returned (.tuple #[]) ∧ w' = w.setCell ⟨b, 1, none⟩ (.int .i64 n) := by
  have c0 := h.c0; have c1 := h.c1; have f0 := h.f0; have f1 := h.f1; have lt := h.lt
  clear h
  go_enter Try.func67, Try.ntmps67
  go_wp2
  go_end0
  exact ⟨rfl, rfl⟩

set_option maxHeartbeats 400000 in
theorem fail_no (b : Nat) (s : ByteArray) (e n : Int) (w : World) (h : Rd b s e w) (he : e ≠ 0) :
    Calls Try.prog 67 #[.pointer (some ⟨b, 0, none⟩), .int .i64 n] w fun r w' => r = .returned (.tuple #[]) ∧ w = w' := by
  have c0 := h.c0; have c1 := h.c1; have f0 := h.f0; have f1 := h.f1; have lt := h.lt
  clear h
  have e1 : (e == 0) = false := beq_eq_false_iff_ne.2 he
  clear he
  go_enter Try.func67, Try.ntmps67
  go_wp2
  go_end0
  exact ⟨rfl, rfl⟩

/-- What Bytes(n) answers, what is left, and the error behind it. -/
def rdBytes (s : ByteArray) (e n : Int) : ByteArray × ByteArray × Int :=
  if e ≠ 0 then (ByteArray.empty, s, e) else if n < 0 then (ByteArray.empty, s, 1) else if (s.size : Int) < n then (ByteArray.empty, s, 10) else (s.extract 0 n.toNat, s.extract n.toNat s.size, 0)

set_option maxHeartbeats 400000 in
theorem bytes_any (b : Nat) (s : ByteArray) (e n : Int) (w : World) (h : Rd b s e w) :
    Calls Try.prog 68 #[.pointer (some ⟨b, 0, none⟩), .int .i64 n] w fun r w' => r = .returned (.string (rdBytes s e n).1) ∧ Rd b (rdBytes s e n).2.1 (rdBytes s e n).2.2 w' ∧ Only b w w' := by
  have c0 := h.c0; have c1 := h.c1; have f0 := h.f0; have f1 := h.f1; have lt := h.lt; have sz := h.sz
  have H : Hid (Rd b s e w) := h
  clear h
  by_cases he : e = 0
  · subst he
    by_cases hn : n < 0
    · have E : Hid (rdBytes s 0 n = (ByteArray.empty, s, 1)) := by simp [Hid, rdBytes, hn]
      go_enter Try.func68, Try.ntmps68
      go_wp2_with (go_at_call 67; refine (fail_ok b s _ _ H.out).mono ?_; rintro e w' ⟨rfl, rfl⟩)
      go_ret
      rw [E.out]
      exact ⟨rfl, H.out.set1 _, Only.setCell _ _ _ _⟩
    · by_cases hl : (s.size : Int) < n
      · have E : Hid (rdBytes s 0 n = (ByteArray.empty, s, 10)) := by simp [Hid, rdBytes, hn, hl]
        go_enter Try.func68, Try.ntmps68
        go_wp2_with (go_at_call 67; refine (fail_ok b s _ _ H.out).mono ?_; rintro e w' ⟨rfl, rfl⟩)
        go_ret
        rw [E.out]
        exact ⟨rfl, H.out.set1 _, Only.setCell _ _ _ _⟩
      · have E : Hid (rdBytes s 0 n = (s.extract 0 n.toNat, s.extract n.toNat s.size, 0)) := by simp [Hid, rdBytes, hn, hl]
        obtain ⟨m, rfl⟩ := Int.eq_ofNat_of_zero_le (Int.not_lt.1 hn)
        have hm : m ≤ s.size := by omega
        go_enter Try.func68, Try.ntmps68
        go_wp2
        go_ret
        rw [E.out]
        refine ⟨?_, ?_, ?_⟩
        · rfl
        · exact H.out.set0 _ (by simp; omega)
        · exact Only.setCell _ _ _ _
  · have E : Hid (rdBytes s e n = (ByteArray.empty, s, e)) := by simp [Hid, rdBytes, he]
    have e1 : (e != 0) = true := by rw [bne_iff_ne]; exact he
    clear he
    go_enter Try.func68, Try.ntmps68
    go_wp2
    go_ret
    rw [E.out]
    exact ⟨rfl, H.out, Only.refl _ _⟩

end Go.Proofs.Ytmamnlphhiaeoaa

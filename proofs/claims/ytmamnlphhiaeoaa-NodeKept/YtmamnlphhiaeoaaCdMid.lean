/-
  The walks of package codec's Reader: End, Int, Text.
-/
import Derived.Test.YtmamnlphhiaeoaaCdSmall
import Derived.Test.YtmamnlphhiaeoaaCdNums
namespace Go.Proofs.Ytmamnlphhiaeoaa
open Go.RowKit

theorem or_i64_nat (a b : Nat) (ha : a < 4611686018427387904) (hb : b < 4611686018427387904) : bits .or .i64 (a : Int) (b : Int) = ((a ||| b : Nat) : Int) := by
  have hx : a ||| b < 2 ^ 62 := Nat.or_lt_two_pow (by omega) (by omega)
  show IntKind.i64.wrap ((BitVec.ofInt 64 (a : Int) ||| BitVec.ofInt 64 (b : Int)).toNat : Int) = _
  rw [BitVec.toNat_or, ofInt_u64 a (by omega), ofInt_u64 b (by omega), IntKind.wrap_i64]
  omega
theorem or_byte (m c : Nat) (hm : m < 16777216) (hc : c < 256) : Value.int .i64 (bits .or .i64 ((m : Int) * 256) (wrap64 (c : Int))) = .int .i64 ((m * 256 + c : Nat) : Int) := by
  have e1 : wrap64 (c : Int) = (c : Int) := by unfold wrap64; omega
  have e2 : ((m : Int) * 256) = ((m * 256 : Nat) : Int) := by omega
  rw [e1, e2, or_i64_nat _ _ (by omega) (by omega), nat_join 8 _ _ (by omega) (by omega)]

/-- What End() answers. -/
def rdEnd (s : ByteArray) (e : Int) : Int := if e ≠ 0 then e else if s.size = 0 then 0 else 11

set_option maxHeartbeats 400000 in
theorem end_any (b : Nat) (s : ByteArray) (e : Int) (w : World) (h : Rd b s e w) :
    Calls Try.prog 64 #[.pointer (some ⟨b, 0, none⟩)] w fun r w' => r = .returned (.int .i64 (rdEnd s e)) ∧ w = w' := by
  have H : Hid (Rd b s e w) := h
  have sz := h.sz
  clear h
  by_cases he : e = 0
  · subst he
    by_cases hs : s.size = 0
    · have E : Hid (rdEnd s 0 = 0) := by simp [Hid, rdEnd, hs]
      have hs' : ¬ (0 : Int) < (s.size : Int) := by omega
      clear hs
      go_enter Try.func64, Try.ntmps64
      go_wp2_with (first | (go_at_call 61; refine (err_any b s _ _ H.out).mono ?_; rintro e w' ⟨rfl, rfl⟩) | (go_at_call 62; refine (left_any b s _ _ H.out).mono ?_; rintro e w' ⟨rfl, rfl⟩))
      go_ret
      exact ⟨ret_int E.out.symm, rfl⟩
    · have E : Hid (rdEnd s 0 = 11) := by simp [Hid, rdEnd, hs]
      have hs' : (0 : Int) < (s.size : Int) := by omega
      clear hs
      go_enter Try.func64, Try.ntmps64
      go_wp2_with (first | (go_at_call 61; refine (err_any b s _ _ H.out).mono ?_; rintro e w' ⟨rfl, rfl⟩) | (go_at_call 62; refine (left_any b s _ _ H.out).mono ?_; rintro e w' ⟨rfl, rfl⟩))
      go_ret
      exact ⟨ret_int E.out.symm, rfl⟩
  · have E : Hid (rdEnd s e = e) := by simp [Hid, rdEnd, he]
    have e1 : (e != 0) = true := by rw [bne_iff_ne]; exact he
    clear he
    go_enter Try.func64, Try.ntmps64
    go_wp2_with (first | (go_at_call 61; refine (err_any b s _ _ H.out).mono ?_; rintro e w' ⟨rfl, rfl⟩) | (go_at_call 62; refine (left_any b s _ _ H.out).mono ?_; rintro e w' ⟨rfl, rfl⟩))
    go_ret
    exact ⟨ret_int E.out.symm, rfl⟩

/-- What Int(size) answers, what is left, and the error behind it. -/
def rdInt (s : ByteArray) (e n : Int) : Int × ByteArray × Int :=
  if szB n = false then (0, s, if e ≠ 0 then e else 1) else ((beNat (rdBytes s e n).1.data.toList : Int), (rdBytes s e n).2.1, (rdBytes s e n).2.2)

theorem rdBytes_le4 (s : ByteArray) (e n : Int) (h : szB n = true) : (rdBytes s e n).1.size ≤ 4 := by
  have : n = 1 ∨ n = 2 ∨ n = 4 := by simpa [szB] using h
  unfold rdBytes
  split
  · simp
  · split
    · simp
    · split
      · simp
      · simp; omega

set_option maxHeartbeats 400000 in
theorem int_any (b : Nat) (s : ByteArray) (e n : Int) (w : World) (h : Rd b s e w) :
    Calls Try.prog 60 #[.pointer (some ⟨b, 0, none⟩), .int .i64 n] w fun r w' => r = .returned (.int .i64 (rdInt s e n).1) ∧ Rd b (rdInt s e n).2.1 (rdInt s e n).2.2 w' ∧ Only b w w' := by
  have H : Hid (Rd b s e w) := h
  have sz := h.sz
  clear h
  cases hz : szB n
  · by_cases he : e = 0
    · subst he
      have E : Hid (rdInt s 0 n = (0, s, 1)) := by simp [Hid, rdInt, hz]
      go_enter Try.func60, Try.ntmps60
      go_wp2_with (first | (go_at_call 66; refine (isSize_any _ _).mono ?_; rintro e w' ⟨rfl, rfl⟩) | (go_at_call 67; refine (fail_ok b s _ _ H.out).mono ?_; rintro e w' ⟨rfl, rfl⟩))
      go_ret
      rw [E.out]
      exact ⟨rfl, H.out.set1 _, Only.setCell _ _ _ _⟩
    · have E : Hid (rdInt s e n = (0, s, e)) := by simp [Hid, rdInt, hz, he]
      go_enter Try.func60, Try.ntmps60
      go_wp2_with (first | (go_at_call 66; refine (isSize_any _ _).mono ?_; rintro e w' ⟨rfl, rfl⟩) | (go_at_call 67; refine (fail_no b s _ _ _ H.out he).mono ?_; rintro e w' ⟨rfl, rfl⟩))
      go_ret
      rw [E.out]
      exact ⟨rfl, H.out, Only.refl _ _⟩
  · have E : Hid (rdInt s e n = ((beNat (rdBytes s e n).1.data.toList : Int), (rdBytes s e n).2.1, (rdBytes s e n).2.2)) := by simp [Hid, rdInt, hz]
    have h4 := rdBytes_le4 s e n hz
    have C := bytes_any b s e n w H.out
    revert C E h4
    generalize rdBytes s e n = t
    obtain ⟨x, s', e'⟩ := t
    intro E h4 C0
    have C : Hid _ := C0
    clear C0
    simp only at h4
    go_enter Try.func60, Try.ntmps60
    go_wp2_with (first | (go_at_call 66; refine (isSize_any _ _).mono ?_; rintro e w' ⟨rfl, rfl⟩) | (go_at_call 68; refine Calls.mono C.out ?_; rintro e w' ⟨rfl, hr, ho⟩))
    go_loop [6, 18] (fun v i => ∃ k : Nat, k ≤ x.size ∧ i = .int .i64 k ∧ v = .int .i64 (beNat (x.data.toList.take k))) (fun _ i => x.size - (intOf i).toNat)
    case atStart => exact ⟨0, Nat.zero_le _, rfl, rfl⟩
    case round =>
      obtain ⟨k, hk, rfl, rfl⟩ := hrel
      by_cases hlt : k < x.size
      · have T : Hid (beNat (x.data.toList.take (k + 1)) = beNat (x.data.toList.take k) * 256 + x[k].toNat) := beNat_take x.data.toList k (by simpa using hlt)
        have B := beNat_take_lt x.data.toList k (by omega)
        go_wp2
        have C8 : x[k].toNat < 256 := UInt8.toNat_lt _
        refine ⟨⟨k + 1, by omega, by go_num, ?_⟩, by simp [intOf]; omega⟩
        rw [T.out, or_byte _ _ B C8]
      · have T : Hid (x.data.toList.take k = x.data.toList) := List.take_of_length_le (by simp; omega)
        go_wp2
        go_ret
        rw [E.out]
        exact ⟨ret_int (by rw [T.out]), hr, ho⟩

end Go.Proofs.Ytmamnlphhiaeoaa

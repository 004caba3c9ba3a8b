/-
  The walks of the document's answer for layer 5: rootstockref05's Seal, Open and Check, and rootstockref01's Int.
-/
import Derived.Test.YtalljfckjkbieaaDoorPgWorks
import Derived.Test.YtalljfckjkbieaaDoorCrRef
import Derived.Test.YtalljfckjkbieaaDoorCdRefPut
import Derived.Deep.QuietTactic
namespace Go.Proofs.YtalljfckjkbieaaDoor
open Go.RowKit

theorem below_more {B : Nat} {u w : World} (h : Below B u w) (n : Nat) : Below B u (w.drewN n) := ⟨h.os, h.tape, h.output, h.size, h.block⟩

theorem beNat_take_le (l : List UInt8) (k : Nat) (h : k ≤ 4) : beNat (l.take k) < 4294967296 := by
  have h1 := beNat_lt (l.take k)
  have h2 : (l.take k).length ≤ 4 := by simp; omega
  have h3 : 256 ^ (l.take k).length ≤ 256 ^ 4 := Nat.pow_le_pow_right (by omega) h2
  have h4 : (256 : Nat) ^ 4 = 4294967296 := by decide
  omega

set_option maxHeartbeats 1000000 in
theorem refInt (x : ByteArray) (w : World) (hx : x.size ≤ 4) :
    Calls Tryd.prog 30 #[.string x] w fun r w' => r = .returned (.int .i64 ((beNat x.data.toList : Nat) : Int)) ∧ w = w' := by
  go_enter Tryd.func30, Tryd.ntmps30
  go_wp2
  go_loop [3, 4] (fun v i => ∃ k M : Nat, k ≤ x.size ∧ i = .int .i64 k ∧ v = .int .i64 M ∧ M < 4294967296 ∧ Hid (M = beNat (x.data.toList.take k))) (fun _ i => x.size - (intOf i).toNat)
  case atStart => exact ⟨0, 0, Nat.zero_le _, rfl, rfl, by decide, rfl⟩
  case round =>
    obtain ⟨k, M, hk, rfl, rfl, hM, eM⟩ := hrel
    by_cases hlt : k < x.size
    · have T : Hid (beNat (x.data.toList.take (k + 1)) = beNat (x.data.toList.take k) * 256 + x[k].toNat) := beNat_take x.data.toList k (by simpa using hlt)
      have B := beNat_take_le x.data.toList (k + 1) (by omega)
      have B2 := beNat_take_lt x.data.toList k (by omega)
      have C8 : x[k].toNat < 256 := UInt8.toNat_lt _
      rw [T.out] at B
      rw [← eM.out] at B B2
      go_wp2
      refine ⟨⟨k + 1, M * 256 + x[k].toNat, by omega, by go_num, by go_num, by omega, ?_⟩, by simp [intOf]; omega⟩
      rw [Hid, T.out, ← eM.out]
    · have T : Hid (x.data.toList.take k = x.data.toList) := List.take_of_length_le (by simp; omega)
      go_wp2
      go_ret
      rw [← T.out, ← eM.out]
      exact ⟨rfl, rfl⟩

theorem qok_put (N : Nat) : qok 4 N = putB 4 (N : Int) := by
  by_cases h : N < 4294967296
  · have h1 : putB 4 (N : Int) = true := (putB4 _).2 ⟨by omega, by omega⟩
    rw [h1]
    unfold qok
    rw [show N / 256 ^ 4 = 0 by rw [show 256 ^ 4 = 4294967296 by decide]; omega]
    rfl
  · have h1 : putB 4 (N : Int) = false := by
      rw [Bool.eq_false_iff]
      intro e
      have := (putB4 _).1 e
      omega
    rw [h1]
    unfold qok
    rw [show (256 ^ 4 : Nat) = 4294967296 by decide, beq_eq_false_iff_ne]
    omega

theorem conv_two (k : UInt8) (w : World) :
    Sem.run Tryd.prog (convert 82 9 (.slice (some ⟨w.heap.size, 0, none⟩) 2 2)) (w.alloc (.cells #[.int .u8 (k.toNat : Int), .int .u8 0] 5)) = .ok (.string ⟨#[k, 0]⟩) (w.alloc (.cells #[.int .u8 (k.toNat : Int), .int .u8 0] 5)) :=
  conv_new [k, 0] #[.int .u8 (k.toNat : Int), .int .u8 0] w 2 2 (by simp) rfl

theorem head_ba (n : Nat) (k : UInt8) (b : ByteArray) :
    ((((⟨(beBytes 4 n).toArray⟩ : ByteArray) ++ ⟨#[k, 0]⟩) ++ ⟨(beBytes 2 b.size).toArray⟩) ++ ⟨#[0, 0, 0, 0]⟩) ++ b = ⟨(beBytes 4 n ++ ([k] ++ ([0] ++ (beBytes 2 b.data.toList.length ++ (List.replicate 4 0 ++ b.data.toList))))).toArray⟩ := by
  apply ba_ext
  simp only [ByteArray.data_append, Array.toList_append, List.append_assoc]
  rw [show b.data.toList.length = b.size by simp]
  rfl

theorem ba_app (l m : List UInt8) : (⟨l.toArray⟩ : ByteArray) ++ ⟨m.toArray⟩ = ⟨(l ++ m).toArray⟩ := by
  apply ba_ext
  simp [ByteArray.data_append]

/-- What the document's Seal answers. -/
def rSealB (id : Int) (n : Nat) : Bool := decide (sealE id n = 0)

/-- What the document's Open answers. -/
def rOpnB (id : Int) (s : List UInt8) : Bool := decide ((opn id s).2.2 = 0)

theorem opn_len {id : Int} {s : List UInt8} (h : s.length ≠ 256) : opn id s = (0, [], 3) := by
  rcases opn_cases id s with ⟨k, b, h1, rfl, _⟩ | ⟨_, h3⟩
  · exact absurd (pageL_length _ _ _ (sealE_zero.1 h1).1) h
  · exact h3
theorem opn_long {id : Int} {s : List UInt8} (h : 240 < opN s) : opn id s = (0, [], 3) := by
  rcases opn_cases id s with ⟨k, b, h1, rfl, _⟩ | ⟨_, h3⟩
  · have := (sealE_zero.1 h1).1
    rw [opN_page _ _ _ this] at h
    omega
  · exact h3

theorem extract_list (s : ByteArray) (a c : Nat) (_ : c ≤ s.size) : (s.extract a c).data.toList = (s.data.toList.drop a).take (c - a) := by
  rw [Lib.extract_data]

end Go.Proofs.YtalljfckjkbieaaDoor

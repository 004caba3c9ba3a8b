/-
  The walk of codec.Text.
-/
import Derived.Test.YtkoonogfllndhabCdLaws
namespace Go.Proofs.Ytkoonogfllndhab
open Go.RowKit

/-- The bytes that Text answers. -/
def textS (s : ByteArray) : List UInt8 := if s.size ≤ 255 then UInt8.ofNat s.size :: s.data.toList else []

/-- The error that Text answers. -/
def textE (s : ByteArray) : Int := if s.size ≤ 255 then 0 else 1

set_option maxHeartbeats 400000 in
theorem text_any (s : ByteArray) (w : World) (hs : s.size ≤ maxLen) :
    Calls Try.prog 19 #[.string s] w fun r w' => r = .returned (.tuple #[.string ⟨(textS s).toArray⟩, .int .i64 (textE s)]) ∧ Below w.heap.size w w' := by
  unfold maxLen at hs
  by_cases h : s.size ≤ 255
  · have e1 : putS 1 (s.size : Int) = [UInt8.ofNat s.size] := by
      have : putB 1 (s.size : Int) = true := by simp [putB, szB]; omega
      have e : s.size % 256 = s.size := by omega
      simp [putS, this, beBytes, e]
    have e2 : putE 1 (s.size : Int) = 0 := by
      have : putB 1 (s.size : Int) = true := by simp [putB, szB]; omega
      simp [putE, this]
    have e3 : Hid (textS s = UInt8.ofNat s.size :: s.data.toList) := by simp [Hid, textS, h]
    have e4 : Hid (textE s = 0) := by simp [Hid, textE, h]
    have P := put_any 1 (s.size : Int) w
    rw [e1, e2] at P
    clear e1 e2
    have C : Hid _ := P
    clear P
    go_enter Try.func19, Try.ntmps19
    go_wp2_with (go_at_call 22; refine Calls.mono C.out ?_; rintro e w1 ⟨rfl, hb⟩)
    refine (join2 ⟨#[UInt8.ofNat s.size]⟩ s w1 (by show 1 + s.size ≤ _; omega)).mono ?_
    rintro e w2 ⟨rfl, hb2⟩
    go_wp2
    go_ret2
    rw [e3.out, e4.out]
    exact ⟨by simp, hb.trans (hb2.mono hb.size)⟩
  · have e1 : putS 1 (s.size : Int) = [] := by
      have : putB 1 (s.size : Int) = false := by simp [putB]; omega
      simp [putS, this]
    have e2 : putE 1 (s.size : Int) = 1 := by
      have : putB 1 (s.size : Int) = false := by simp [putB]; omega
      simp [putE, this]
    have e3 : Hid (textS s = []) := by simp [Hid, textS, h]
    have e4 : Hid (textE s = 1) := by simp [Hid, textE, h]
    have P := put_any 1 (s.size : Int) w
    rw [e1, e2] at P
    clear e1 e2
    have C : Hid _ := P
    clear P
    go_enter Try.func19, Try.ntmps19
    go_wp2_with (go_at_call 22; refine Calls.mono C.out ?_; rintro e w1 ⟨rfl, hb⟩)
    go_ret2
    rw [e3.out, e4.out]
    exact ⟨rfl, hb⟩

end Go.Proofs.Ytkoonogfllndhab

/-
  The walks of codec.Text and of the Reader's Text; what is read is what was written.
-/
import Derived.Test.YtmamnlphhiaeoaaCdLaws
namespace Go.Proofs.Ytmamnlphhiaeoaa
open Go.RowKit

/-- The bytes that Text answers. -/
def textS (s : ByteArray) : List UInt8 := if s.size ≤ 255 then UInt8.ofNat s.size :: s.data.toList else []
/-- The error that Text answers. -/
def textE (s : ByteArray) : Int := if s.size ≤ 255 then 0 else 1

set_option maxHeartbeats 400000 in
theorem text_any (s : ByteArray) (w : World) (hs : s.size ≤ maxLen) :
    Calls Try.prog 55 #[.string s] w fun r w' => r = .returned (.tuple #[.string ⟨(textS s).toArray⟩, .int .i64 (textE s)]) ∧ Below w.heap.size w w' := by
  unfold maxLen at hs
  by_cases h : s.size ≤ 255
  · have e1 : putS 1 (s.size : Int) = [UInt8.ofNat s.size] := by
      have : putB 1 (s.size : Int) = true := by simp [putB, szB]; omega
      have e : s.size % 256 = s.size := by omega
      simp [putS, this, beBytes, e]
    have e2 : putE 1 (s.size : Int) = 0 := by
      have : putB 1 (s.size : Int) = true := by simp [putB, szB]; omega
      simp [putE, this]
    have e3 : Hid (textS s = UInt8.ofNat s.size :: s.data.toList) := by simp [Hid, textS, h]
    have e4 : Hid (textE s = 0) := by simp [Hid, textE, h]
    have P := put_any 1 (s.size : Int) w
    rw [e1, e2] at P
    clear e1 e2
    have C : Hid _ := P
    clear P
    go_enter Try.func55, Try.ntmps55
    go_wp2_with (go_at_call 57; refine Calls.mono C.out ?_; rintro e w1 ⟨rfl, hb⟩)
    refine (join2 ⟨#[UInt8.ofNat s.size]⟩ s w1 (by show 1 + s.size ≤ _; omega)).mono ?_
    rintro e w2 ⟨rfl, hb2⟩
    go_wp2
    go_ret2
    rw [e3.out, e4.out]
    exact ⟨by simp, hb.trans (hb2.mono hb.size)⟩
  · have e1 : putS 1 (s.size : Int) = [] := by
      have : putB 1 (s.size : Int) = false := by simp [putB]; omega
      simp [putS, this]
    have e2 : putE 1 (s.size : Int) = 1 := by
      have : putB 1 (s.size : Int) = false := by simp [putB]; omega
      simp [putE, this]
    have e3 : Hid (textS s = []) := by simp [Hid, textS, h]
    have e4 : Hid (textE s = 1) := by simp [Hid, textE, h]
    have P := put_any 1 (s.size : Int) w
    rw [e1, e2] at P
    clear e1 e2
    have C : Hid _ := P
    clear P
    go_enter Try.func55, Try.ntmps55
    go_wp2_with (go_at_call 57; refine Calls.mono C.out ?_; rintro e w1 ⟨rfl, hb⟩)
    go_ret2
    rw [e3.out, e4.out]
    exact ⟨rfl, hb⟩

/-- What the Reader's Text answers, what is left, and the error behind it. -/
def rdText (s : ByteArray) (e : Int) : ByteArray × ByteArray × Int := rdBytes (rdInt s e 1).2.1 (rdInt s e 1).2.2 (rdInt s e 1).1

set_option maxHeartbeats 400000 in
theorem rtext_any (b : Nat) (s : ByteArray) (e : Int) (w : World) (h : Rd b s e w) :
    Calls Try.prog 63 #[.pointer (some ⟨b, 0, none⟩)] w fun r w' => r = .returned (.string (rdText s e).1) ∧ Rd b (rdText s e).2.1 (rdText s e).2.2 w' ∧ Only b w w' := by
  have C : Hid _ := int_any b s e 1 w h
  clear h
  unfold rdText
  generalize rdInt s e 1 = t at *
  obtain ⟨n, s1, e1⟩ := t
  go_enter Try.func63, Try.ntmps63
  go_wp2_with (go_at_call 60; refine Calls.mono C.out ?_; rintro e w1 ⟨rfl, hr, ho⟩)
  refine (bytes_any b s1 e1 n w1 hr).mono ?_
  rintro r w2 ⟨rfl, hr2, ho2⟩
  go_wp2
  go_ret
  exact ⟨rfl, hr2, ho.trans ho2⟩

theorem rdText_app (c : UInt8) (l r : List UInt8) (h : c.toNat = l.length) : rdText ⟨(c :: (l ++ r)).toArray⟩ 0 = (⟨l.toArray⟩, ⟨r.toArray⟩, 0) := by
  have e := rdInt_app [c] (l ++ r) 1 rfl rfl
  unfold rdText
  rw [List.singleton_append] at e
  rw [e]
  exact rdBytes_app l r _ (by simp [beNat, h])

theorem rdText_inv (s : ByteArray) (e : Int) (h : (rdText s e).2.2 = 0) :
    e = 0 ∧ ∃ (c : UInt8) (l r : List UInt8), s = ⟨(c :: (l ++ r)).toArray⟩ ∧ c.toNat = l.length ∧ rdText s e = (⟨l.toArray⟩, ⟨r.toArray⟩, 0) := by
  have h1 := rdBytes_inv _ _ _ h
  obtain ⟨he1, l, r, hs1, hn, hr⟩ := h1
  obtain ⟨he, _, l1, r1, hs, hl1, hi⟩ := rdInt_inv s e 1 he1
  refine ⟨he, ?_⟩
  rw [hi] at hs1 hn
  match l1, hl1 with
  | [c], _ =>
    refine ⟨c, l, r, ?_, ?_, ?_⟩
    · have : r1 = l ++ r := by
        have := congrArg (fun b : ByteArray => b.data.toList) hs1
        simpa using this
      rw [hs, this]; rfl
    · simp [beNat] at hn; omega
    · exact hr

end Go.Proofs.Ytmamnlphhiaeoaa

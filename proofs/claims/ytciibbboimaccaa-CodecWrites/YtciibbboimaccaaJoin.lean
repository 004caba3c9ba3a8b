/-
  The walks of codec.Join, codec.Text and of the Reader's Text.
-/
import Derived.Test.YtciibbboimaccaaPut
import Derived.Test.YtciibbboimaccaaShelf
namespace Go.Proofs.Ytciibbboimaccaa
open Go.RowKit

/-- All, one behind the other. -/
def cat (xs : List ByteArray) : List UInt8 := (xs.map (·.data.toList)).flatten

theorem join_cat (xs : List ByteArray) : Lib.join (xs.map (·.data.toList)) (ByteArray.data ⟨#[]⟩).toList = cat xs := by
  cases xs with
  | nil => rfl
  | cons x r =>
    rw [List.map_cons, Lib.join_cons]
    simp [cat, Lib.joinTail]
    rfl

set_option maxHeartbeats 400000 in
theorem join_any (bk o c m : Nat) (xs : List ByteArray) (w : World) (hcells : ∀ (j : Nat) x, xs[j]? = some x → w.cell? ⟨bk, o + j, none⟩ = some (.string x)) (hbk : bk < w.heap.size) (hm : xs.length = m) (hN : xs.length ≤ 140737488355328) (hcap : xs.length ≤ c) (hlen : (cat xs).length ≤ 140737488355328) :
    Calls Try.prog 13 #[.slice (some ⟨bk, o, none⟩) m c] w fun r w' => r = .returned (.string ⟨(cat xs).toArray⟩) ∧ Below w.heap.size w w' := by
  subst hm
  have C : Hid _ := Try.strings_Join bk o c xs ⟨#[]⟩ w hcells hbk hN hcap (by rw [join_cat]; exact hlen)
  rw [join_cat] at C
  clear hcells hlen
  go_enter Try.func13, Try.ntmps13
  go_wp2_with (go_at_call 25; refine Calls.mono C.out ?_; rintro e w' ⟨rfl, hb⟩)
  go_ret
  exact ⟨rfl, hb⟩

set_option maxHeartbeats 400000 in
theorem join_none (a : Option Addr) (c : Nat) (w : World) :
    Calls Try.prog 13 #[.slice a 0 c] w fun r w' => r = .returned (.string ⟨#[]⟩) ∧ w = w' := by
  go_enter Try.func13, Try.ntmps13
  go_wp2_with (go_at_call 25; refine (Try.strings_Join_none a c _ w).mono ?_; rintro e w' ⟨rfl, rfl⟩)
  go_ret
  exact ⟨rfl, rfl⟩

theorem join2 (x y : ByteArray) (w : World) (hl : x.size + y.size ≤ 140737488355328) :
    Calls Try.prog 13 #[.slice (some ⟨w.heap.size, 0, none⟩) 2 2] (w.alloc (.cells #[.string x, .string y] 9)) fun r w' => r = .returned (.string ⟨(x.data.toList ++ y.data.toList).toArray⟩) ∧ Below w.heap.size w w' := by
  have hc : cat [x, y] = x.data.toList ++ y.data.toList := by simp [cat]
  have h := join_any w.heap.size 0 2 2 [x, y] (w.alloc (.cells #[.string x, .string y] 9)) (fun j z hj => ?_) (by simp) rfl (by simp) (by simp) (by rw [hc]; simpa using hl)
  · rw [hc] at h
    exact h.mono fun r w' ⟨a, b⟩ => ⟨a, ((Below.refl _ _).alloc (Nat.le_refl _) _).trans (b.mono (by simp))⟩
  · rw [World.cell?_alloc_at _ 9 _ (0 + j) rfl, Nat.zero_add]
    match j, hj with
    | 0, hj => simp at hj ⊢; exact hj
    | 1, hj => simp at hj ⊢; exact hj

theorem join3 (x y z : ByteArray) (w : World) (hl : x.size + (y.size + z.size) ≤ 140737488355328) :
    Calls Try.prog 13 #[.slice (some ⟨w.heap.size, 0, none⟩) 3 3] (w.alloc (.cells #[.string x, .string y, .string z] 9)) fun r w' => r = .returned (.string ⟨(x.data.toList ++ (y.data.toList ++ z.data.toList)).toArray⟩) ∧ Below w.heap.size w w' := by
  have hc : cat [x, y, z] = x.data.toList ++ (y.data.toList ++ z.data.toList) := by simp [cat]
  have h := join_any w.heap.size 0 3 3 [x, y, z] (w.alloc (.cells #[.string x, .string y, .string z] 9)) (fun j u hj => ?_) (by simp) rfl (by simp) (by simp) (by rw [hc]; simpa using hl)
  · rw [hc] at h
    exact h.mono fun r w' ⟨a, b⟩ => ⟨a, ((Below.refl _ _).alloc (Nat.le_refl _) _).trans (b.mono (by simp))⟩
  · rw [World.cell?_alloc_at _ 9 _ (0 + j) rfl, Nat.zero_add]
    match j, hj with
    | 0, hj => simp at hj ⊢; exact hj
    | 1, hj => simp at hj ⊢; exact hj
    | 2, hj => simp at hj ⊢; exact hj

/-- The bytes that Text answers. -/
def textS (s : ByteArray) : List UInt8 := if s.size ≤ 255 then UInt8.ofNat s.size :: s.data.toList else []
/-- The error that Text answers. -/
def textE (s : ByteArray) : Int := if s.size ≤ 255 then 0 else 1

set_option maxHeartbeats 400000 in
theorem text_any (s : ByteArray) (w : World) (hs : s.size ≤ maxLen) :
    Calls Try.prog 12 #[.string s] w fun r w' => r = .returned (.tuple #[.string ⟨(textS s).toArray⟩, .int .i64 (textE s)]) ∧ Below w.heap.size w w' := by
  unfold maxLen at hs
  by_cases h : s.size ≤ 255
  · have e1 : putS 1 (s.size : Int) = [UInt8.ofNat s.size] := by
      have : putB 1 (s.size : Int) = true := by simp [putB, szB]; omega
      have e : s.size % 256 = s.size := by omega
      simp [putS, this, beBytes, e]
    have e2 : putE 1 (s.size : Int) = 0 := by
      have : putB 1 (s.size : Int) = true := by simp [putB, szB]; omega
      simp [putE, this]
    have e3 : Hid (textS s = UInt8.ofNat s.size :: s.data.toList) := by simp [Hid, textS, h]
    have e4 : Hid (textE s = 0) := by simp [Hid, textE, h]
    have P := put_any 1 (s.size : Int) w
    rw [e1, e2] at P
    clear e1 e2
    have C : Hid _ := P
    clear P
    go_enter Try.func12, Try.ntmps12
    go_wp2_with (go_at_call 10; refine Calls.mono C.out ?_; rintro e w1 ⟨rfl, hb⟩)
    refine (join2 ⟨#[UInt8.ofNat s.size]⟩ s w1 (by show 1 + s.size ≤ _; omega)).mono ?_
    rintro e w2 ⟨rfl, hb2⟩
    go_wp2
    go_ret2
    rw [e3.out, e4.out]
    exact ⟨by simp, hb.trans (hb2.mono hb.size)⟩
  · have e1 : putS 1 (s.size : Int) = [] := by
      have : putB 1 (s.size : Int) = false := by simp [putB]; omega
      simp [putS, this]
    have e2 : putE 1 (s.size : Int) = 1 := by
      have : putB 1 (s.size : Int) = false := by simp [putB]; omega
      simp [putE, this]
    have e3 : Hid (textS s = []) := by simp [Hid, textS, h]
    have e4 : Hid (textE s = 1) := by simp [Hid, textE, h]
    have P := put_any 1 (s.size : Int) w
    rw [e1, e2] at P
    clear e1 e2
    have C : Hid _ := P
    clear P
    go_enter Try.func12, Try.ntmps12
    go_wp2_with (go_at_call 10; refine Calls.mono C.out ?_; rintro e w1 ⟨rfl, hb⟩)
    go_ret2
    rw [e3.out, e4.out]
    exact ⟨rfl, hb⟩

/-- What the Reader's Text answers, what is left, and the error behind it. -/
def rdText (s : ByteArray) (e : Int) : ByteArray × ByteArray × Int := rdBytes (rdInt s e 1).2.1 (rdInt s e 1).2.2 (rdInt s e 1).1

set_option maxHeartbeats 400000 in
theorem rtext_any (b : Nat) (s : ByteArray) (e : Int) (w : World) (h : Rd b s e w) :
    Calls Try.prog 17 #[.pointer (some ⟨b, 0, none⟩)] w fun r w' => r = .returned (.string (rdText s e).1) ∧ Rd b (rdText s e).2.1 (rdText s e).2.2 w' ∧ Only b w w' := by
  have C : Hid _ := int_any b s e 1 w h
  clear h
  unfold rdText
  generalize rdInt s e 1 = t at *
  obtain ⟨n, s1, e1⟩ := t
  go_enter Try.func17, Try.ntmps17
  go_wp2_with (go_at_call 15; refine Calls.mono C.out ?_; rintro e w1 ⟨rfl, hr, ho⟩)
  refine (bytes_any b s1 e1 n w1 hr).mono ?_
  rintro r w2 ⟨rfl, hr2, ho2⟩
  go_wp2
  go_ret
  exact ⟨rfl, hr2, ho.trans ho2⟩

end Go.Proofs.Ytciibbboimaccaa

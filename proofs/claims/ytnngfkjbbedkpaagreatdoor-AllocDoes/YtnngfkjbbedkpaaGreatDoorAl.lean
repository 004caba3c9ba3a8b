/-
  A change of a file, as the document says it: plain functions of what is free, how many pages there are, and what fresh pages hold.
-/
import Derived.Test.YtnngfkjbbedkpaaGreatDoorAlMap
import Derived.Test.YtnngfkjbbedkpaaGreatDoorBFile
import Derived.Test.YtnngfkjbbedkpaaGreatDoorBRunsA
namespace Go.Proofs.YtnngfkjbbedkpaaGreatDoor
open Go.RowKit
set_option linter.unusedVariables false

structure TX where
  free : List Pr
  pages : Nat
  fresh : Fr
  cnt : Nat

def pagesOf (pages : Int) (room : Nat) : Nat := (max 2 (min pages (room : Int))).toNat
def TX.new (fr : List Pr) (pages : Int) (room : Nat) : TX := ⟨meL fr [(2, (pagesOf pages room : Int) - 1)], pagesOf pages room, fun _ => none, 0⟩
def TX.alloc (x : TX) (room : Nat) : (Int × Int) × TX :=
  match x.free with
  | r :: s => ((r.1, 0), ⟨dropF (r :: s), x.pages, putF x.fresh r.1 c0, x.cnt + 1⟩)
  | [] => if room ≤ x.pages then ((0, 2), x) else (((x.pages : Int), 0), ⟨[], x.pages + 1, putF x.fresh x.pages c0, x.cnt + 1⟩)
def TX.drop (x : TX) (id : Int) : TX := if (x.fresh id).isSome = true then ⟨unL x.free [(id, id)], x.pages, delF x.fresh id, x.cnt⟩ else x
def TX.put (x : TX) (id : Int) (kind : UInt8) (s : ByteArray) : Int × TX :=
  if (x.fresh id).isSome = true then (if 240 < s.size then (50, x) else (0, ⟨x.free, x.pages, putF x.fresh id ⟨true, kind, s⟩, x.cnt + 1⟩)) else (1, x)
/-- What holds of a change all the time. -/
structure TX.Ok (x : TX) (room : Nat) : Prop where
  cn : Cn x.free
  p2 : 2 ≤ x.pages
  pr : x.pages ≤ room
  fr : ∀ n, InR x.free n → 2 ≤ n ∧ n < x.pages
  fs : ∀ n, (x.fresh n).isSome = true → 2 ≤ n ∧ n < x.pages
  dj : ∀ n, InR x.free n → (x.fresh n).isSome = false

theorem cn_len {p : Int} : ∀ (l : List Pr) (f : Int), f ≤ p → Cn l → (∀ n, InR l n → f ≤ n ∧ n < p) → (l.length : Int) + f ≤ p
  | [], f, hf, _, _ => by simpa using hf
  | r :: l, f, hf, hc, h => by
    obtain ⟨⟨r0, r1, r2⟩, _, hl⟩ := cn_cons.1 hc
    have a1 := h r.1 (hc.head_in (Int.le_refl _) r1)
    have a2 := h r.2 (hc.head_in r1 (Int.le_refl _))
    have ih := cn_len l (r.2 + 1) (by omega) hl (fun n hn => ⟨by have := hc.tail_gt hn; omega, (h n ((inR_cons _ _ _).2 (.inr hn))).2⟩)
    simp only [List.length_cons]
    omega
theorem TX.Ok.len {x : TX} {room : Nat} (h : x.Ok room) : x.free.length ≤ x.pages := by
  have := cn_len (p := x.pages) x.free 2 (by have := h.p2; omega) h.cn h.fr
  omega

theorem pagesOf_ok (pages : Int) {room : Nat} (h : 2 ≤ room) : 2 ≤ pagesOf pages room ∧ pagesOf pages room ≤ room := by unfold pagesOf; omega
theorem TX.new_ok (fr : List Pr) (pages : Int) {room : Nat} (h : 2 ≤ room) : (TX.new fr pages room).Ok room := by
  obtain ⟨h2, h3⟩ := pagesOf_ok pages h
  refine ⟨meL_cn _ _, h2, h3, fun n hn => ?_, (fun n hn => by cases hn), fun n hn => rfl⟩
  have := (meL_in _ _ n).1 hn
  have := (inR_one _ _).1 this.2
  show _ ∧ n < (pagesOf pages room : Int)
  simp only at this
  omega
theorem putF_some (g : Fr) (k : Int) (c : C3) (q : Int) : (putF g k c q).isSome = (decide (q = k) || (g q).isSome) := by
  unfold putF
  by_cases h : q = k <;> simp [h]
theorem delF_some (g : Fr) (k : Int) (q : Int) : (delF g k q).isSome = (!decide (q = k) && (g q).isSome) := by
  unfold delF
  by_cases h : q = k <;> simp [h]

theorem TX.alloc_ok {x : TX} {room : Nat} (h : x.Ok room) : (x.alloc room).2.Ok room := by
  obtain ⟨fr, p, g, c⟩ := x
  unfold TX.alloc
  cases fr with
  | cons r s =>
    obtain ⟨_, d1, _, _, d2⟩ := dropF_ok h.cn
    have r1 := h.fr r.1 (h.cn.head_in (Int.le_refl _) (cn_cons.1 h.cn).1.2.1)
    refine ⟨d1, h.p2, h.pr, fun n hn => h.fr n ((d2 n).1 hn).1, fun n hn => ?_, fun n hn => ?_⟩
    · rw [putF_some] at hn
      rcases Bool.or_eq_true_iff.1 hn with e | e
      · rw [of_decide_eq_true e]; exact r1
      · exact h.fs n e
    · have k := (d2 n).1 hn
      have := h.dj n k.1
      simp only at this
      rw [putF_some, this]
      simp
      omega
  | nil =>
    simp only
    split
    · exact h
    · rename_i hp
      have h2 := h.p2
      simp only at h2
      refine ⟨Cn.nil, by simp only; omega, by simp only; omega, fun n hn => absurd hn (inR_nil n), fun n hn => ?_, fun n hn => absurd hn (inR_nil n)⟩
      rw [putF_some] at hn
      simp only
      rcases Bool.or_eq_true_iff.1 hn with e | e
      · rw [of_decide_eq_true e]; omega
      · have := h.fs n e; simp only at this; omega
theorem TX.drop_ok {x : TX} {room : Nat} (h : x.Ok room) (id : Int) : (x.drop id).Ok room := by
  unfold TX.drop
  split
  · rename_i hi
    have k := h.fs id hi
    refine ⟨unL_cn _ _, h.p2, h.pr, fun n hn => ?_, fun n hn => ?_, fun n hn => ?_⟩
    · rcases (unL_in _ _ n).1 hn with e | e
      · exact h.fr n e
      · have := (inR_one _ _).1 e
        simp only at this
        have e2 : n = id := by omega
        rw [e2]; exact k
    · rw [delF_some] at hn
      exact h.fs n (Bool.and_eq_true_iff.1 hn).2
    · rw [delF_some]
      rcases (unL_in _ _ n).1 hn with e | e
      · rw [h.dj n e]; simp
      · have := (inR_one _ _).1 e
        simp only at this
        have e2 : n = id := by omega
        simp [e2]
  · exact h
theorem TX.put_ok {x : TX} {room : Nat} (h : x.Ok room) (id : Int) (kind : UInt8) (s : ByteArray) : (x.put id kind s).2.Ok room := by
  unfold TX.put
  split
  · rename_i hi
    split
    · exact h
    · have k := h.fs id hi
      refine ⟨h.cn, h.p2, h.pr, h.fr, fun n hn => ?_, fun n hn => ?_⟩
      · rw [putF_some] at hn
        rcases Bool.or_eq_true_iff.1 hn with e | e
        · rw [of_decide_eq_true e]; exact k
        · exact h.fs n e
      · rw [putF_some, h.dj n hn]
        have : n ≠ id := fun e => by
          have := h.dj n hn
          rw [e, hi] at this; cases this
        simp [this]
  · exact h

end Go.Proofs.YtnngfkjbbedkpaaGreatDoor

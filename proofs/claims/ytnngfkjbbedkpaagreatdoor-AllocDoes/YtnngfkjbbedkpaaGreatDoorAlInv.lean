/-
  What holds of both changes, round by round; plain.
-/
import Derived.Test.YtnngfkjbbedkpaaGreatDoorAlRef9
import Derived.Test.YtnngfkjbbedkpaaGreatDoorAlAct
namespace Go.Proofs.YtnngfkjbbedkpaaGreatDoor
open Go.Shelf Go.RowKit Go.Lib Go.Sort
set_option linter.unusedVariables false

structure Inv (Rm i : Nat) (x : TX) (y : RX) (d : Dk) : Prop where
  ok : x.Ok Rm
  rel : Rel x y
  cn : x.cnt ≤ i
  pn : d.pend.length ≤ 101 * i
  sz : ∀ k c, x.fresh k = some c → c.body.size ≤ 240
  rm : d.room = Rm

section
variable {Rm i : Nat} {x : TX} {y y' : RX} {d : Dk}
theorem Inv.next (h : Inv Rm i x y d) : Inv Rm (i + 1) x y d := ⟨h.ok, h.rel, Nat.le_succ_of_le h.cn, by have := h.pn; omega, h.sz, h.rm⟩
theorem putF_sz {g : Fr} (h : ∀ k c, g k = some c → c.body.size ≤ 240) (id : Int) {c : C3} (hc : c.body.size ≤ 240) : ∀ k c', putF g id c k = some c' → c'.body.size ≤ 240 := fun k c' hk => by
  unfold putF at hk
  split at hk
  · cases hk; exact hc
  · exact h k c' hk
theorem Inv.alloc (h : Inv Rm i x y d) (hr : Rel (x.alloc Rm).2 y') : Inv Rm (i + 1) (x.alloc Rm).2 y' d := by
  refine ⟨TX.alloc_ok h.ok, hr, Nat.le_trans (alloc_cnt x Rm) (by have := h.cn; omega), by have := h.pn; omega, ?_, h.rm⟩
  have hs := h.sz
  obtain ⟨fr, p, g, c⟩ := x
  cases fr with
  | cons r s => exact putF_sz hs _ (by show 0 ≤ 240; omega)
  | nil =>
    by_cases hrm : Rm ≤ p
    · simp only [TX.alloc, hrm, if_true]; exact hs
    · simp only [TX.alloc, hrm, if_false]; exact putF_sz hs _ (by show 0 ≤ 240; omega)
theorem Inv.drop (h : Inv Rm i x y d) (id : Int) (hr : Rel (x.drop id) y') : Inv Rm (i + 1) (x.drop id) y' d := by
  refine ⟨TX.drop_ok h.ok id, hr, by rw [drop_cnt]; exact Nat.le_succ_of_le h.cn, by have := h.pn; omega, ?_, h.rm⟩
  unfold TX.drop
  split
  · intro k c hk
    have hk' : delF x.fresh id k = some c := hk
    unfold delF at hk'
    split at hk'
    · cases hk'
    · exact h.sz k c hk'
  · exact h.sz
theorem Inv.put (h : Inv Rm i x y d) (id : Int) (k : UInt8) (s : ByteArray) (hr : Rel (x.put id k s).2 y') : Inv Rm (i + 1) (x.put id k s).2 y' d := by
  have hc := h.cn
  refine ⟨TX.put_ok h.ok id k s, hr, ?_, by have := h.pn; omega, ?_, h.rm⟩
  · unfold TX.put
    split
    · split
      · exact Nat.le_succ_of_le hc
      · show x.cnt + 1 ≤ i + 1; omega
    · exact Nat.le_succ_of_le hc
  · unfold TX.put
    split
    · split
      · exact h.sz
      · exact putF_sz h.sz _ (by simp only; omega)
    · exact h.sz
theorem get_turn (x : TX) (d : Dk) (id : Int) (k : UInt8) : (x.get d id k).2.sure = d.sure ∧ (x.get d id k).2.pend = d.pend := by
  unfold TX.get
  split
  · split <;> exact ⟨rfl, rfl⟩
  · split
    · exact ⟨rfl, rfl⟩
    · exact d.rd_same id k
theorem room_of {d d' : Dk} (h : d'.sure.length = d.sure.length) : d'.room = d.room := by unfold Dk.room; rw [h]
theorem Inv.get (h : Inv Rm i x y d) (id : Int) (k : UInt8) : Inv Rm (i + 1) x y (x.get d id k).2 := by
  obtain ⟨a, b⟩ := get_turn x d id k
  exact ⟨h.ok, h.rel, Nat.le_succ_of_le h.cn, by rw [b]; have := h.pn; omega, h.sz, (room_of (by rw [a])).trans h.rm⟩
theorem sync_turn (d : Dk) : d.sync.2.sure.length = d.sure.length ∧ d.sync.2.pend.length ≤ d.pend.length := by
  unfold Dk.sync
  split
  · exact ⟨rfl, Nat.le_refl _⟩
  · exact ⟨syncTo_length _ _ _, Nat.zero_le _⟩
theorem flush_turn (g : Fr) : ∀ (L : List Int) (d : Dk), (flushL g L d).2.sure.length = d.sure.length ∧ (flushL g L d).2.pend.length ≤ d.pend.length + L.length
  | [], d => sync_turn d
  | id :: L, d => by
    obtain ⟨a, b⟩ := flush1_turn g d id
    rw [flushL]
    split
    · obtain ⟨a2, b2⟩ := flush_turn g L (flush1 g d id).2
      exact ⟨by rw [a2, a], by simp only [List.length_cons]; omega⟩
    · exact ⟨by rw [a], by simp only [List.length_cons]; omega⟩
theorem Inv.flush (h : Inv Rm i x y d) (hi : i ≤ 100) {L : List Int} (hL : L.length ≤ x.cnt) : Inv Rm (i + 1) x y (flushL x.fresh L d).2 := by
  obtain ⟨a, b⟩ := flush_turn x.fresh L d
  have := h.cn
  have := h.pn
  exact ⟨h.ok, h.rel, Nat.le_succ_of_le h.cn, by omega, h.sz, by rw [room_of a, h.rm]⟩
theorem stop_turn (d : Dk) (n : Int) : (d.stop n).sure = d.sure ∧ (d.stop n).pend = d.pend := by
  unfold Dk.stop
  split <;> exact ⟨rfl, rfl⟩
theorem Inv.stop (h : Inv Rm i x y d) (n : Int) : Inv Rm (i + 1) x y (d.stop n) := by
  obtain ⟨a, b⟩ := stop_turn d n
  exact ⟨h.ok, h.rel, Nat.le_succ_of_le h.cn, by rw [b]; have := h.pn; omega, h.sz, (room_of (by rw [a])).trans h.rm⟩
end

end Go.Proofs.YtnngfkjbbedkpaaGreatDoor

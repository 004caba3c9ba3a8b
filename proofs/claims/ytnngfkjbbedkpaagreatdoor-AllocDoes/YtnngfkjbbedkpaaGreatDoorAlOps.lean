/-
  The walks of package alloc's New, Pages, Fresh, Free, takeLeast, takeBehind, Alloc, Drop, Put.
-/
import Derived.Test.YtnngfkjbbedkpaaGreatDoorAlKit
import Derived.Test.YtnngfkjbbedkpaaGreatDoorAlOwn
namespace Go.Proofs.YtnngfkjbbedkpaaGreatDoor
open Go.Shelf Go.RowKit Go.Lib Go.Sort
open Go.ChangeMaps (setBlock)
set_option linter.unusedVariables false

section
variable {B : Nat} {w0 w : World} {l : List Res} {t f b : Nat} {x : TX} {d : Dk}

set_option maxHeartbeats 400000 in
theorem given_t (w : World) : Calls Tryz.prog 45 #[ptr t] w fun e w' => e = .returned (ptr t) ∧ w = w' := by
  go_enter Tryz.func45, Tryz.ntmps45
  go_wp2
  go_ret
  exact ⟨rfl, rfl⟩

set_option maxHeartbeats 400000 in
theorem tpages (h : Sep B w0 w (Tx t f x :: l)) (h2 : 2 ≤ x.pages) : Calls Tryz.prog 26 #[ptr t] w fun e w' => e = .returned (.int .i64 (x.pages : Int)) ∧ w = w' := by
  obtain ⟨v, m, h⟩ := h.txOpen
  obtain ⟨ht, q0, q1, q2, q3, qf⟩ := h.txCells
  have C : Hid _ := given_t (t := t) w
  clear h
  generalize x.pages = p at *
  go_enter Tryz.func26, Tryz.ntmps26
  go_wp2_with fail
  refine Calls.mono C.out ?_
  rintro e w1 ⟨rfl, rfl⟩
  clear C
  go_wp2
  go_ret
  exact ⟨ret_int (by omega), rfl⟩

set_option maxHeartbeats 400000 in
theorem tfresh (h : Sep B w0 w (Tx t f x :: l)) {id : Int} (hk : Wf id) : Calls Tryz.prog 27 #[ptr t, .int .i64 id] w fun e w' => e = .returned (.bool (x.fresh id).isSome) ∧ Below w.heap.size w w' := by
  obtain ⟨v, m, h⟩ := h.txOpen
  obtain ⟨ht, q0, q1, q2, q3, qf⟩ := h.txCells
  have hlook := h.up2.lookOk hk
  have C : Hid _ := given_t (t := t) w
  clear h hk
  generalize (x.fresh id).getD c0 = cc at *
  generalize (x.fresh id).isSome = bb at *
  obtain ⟨cb, ck, cs⟩ := cc
  unfold cV at hlook
  simp only at hlook
  go_enter Tryz.func27, Tryz.ntmps27
  go_wp2_with fail
  refine Calls.mono C.out ?_
  rintro e w1 ⟨rfl, rfl⟩
  clear C
  have B1 : Hid (Below w.heap.size w (w.alloc (.cells #[.bool cb, .int .u8 (ck.toNat : Int), .string cs] 93))) := (Below.refl _ w).alloc (Nat.le_refl _) _
  go_wp2
  go_ret
  exact ⟨rfl, B1.out⟩

set_option maxHeartbeats 400000 in
theorem tfree (h : Sep B w0 w (Tx t f x :: l)) (hc : Cn x.free) (hl : x.free.length ≤ 40000) : Calls Tryz.prog 24 #[ptr t] w (GivesO w x.free) := by
  obtain ⟨v, m, h⟩ := h.txOpen
  obtain ⟨ht, q0, q1, q2, q3, qf⟩ := h.txCells
  have N := norm_o v x.free w h.up1.free.row (by omega)
  rw [nmL_of_cn hc] at N
  have N2 : Hid _ := N
  have C : Hid _ := given_t (t := t) w
  obtain ⟨ao, cap, rfl, _⟩ := h.up1.free
  clear h N
  go_enter Tryz.func24, Tryz.ntmps24
  go_wp2_with fail
  refine Calls.mono C.out ?_
  rintro e w1 ⟨rfl, rfl⟩
  clear C
  go_wp2_with fail
  refine Calls.mono N2.out ?_
  rintro e w2 ⟨ao2, n2, c2, rfl, r2, b2⟩
  go_wp2
  go_ret
  exact ⟨_, _, _, rfl, r2, b2⟩

theorem TX.eta (x : TX) : (⟨x.free, x.pages, x.fresh, x.cnt⟩ : TX) = x := rfl

set_option maxHeartbeats 1000000 in
theorem takeLeast_t (h : Sep B w0 w (Tx t f x :: l)) (hc : Cn x.free) : Calls Tryz.prog 46 #[ptr t] w fun e w' => e = .returned (.tuple #[.int .i64 (fstN x.free), .bool (fstB x.free)]) ∧ Sep B w0 w' (Tx t f ⟨dropF x.free, x.pages, x.fresh, x.cnt⟩ :: l) := by
  obtain ⟨fr, p, g, c⟩ := x
  simp only at hc ⊢
  cases fr with
  | nil =>
    have HS : Hid (Sep B w0 w (Tx t f ⟨dropF [], p, g, c⟩ :: l)) := h
    obtain ⟨v, m, h⟩ := h.txOpen
    obtain ⟨ht, q0, q1, q2, q3, qf⟩ := h.txCells
    obtain ⟨ao, cap, rfl, _⟩ := h.up1.free
    clear h
    go_enter Tryz.func46, Tryz.ntmps46
    go_wp2
    go_ret2
    exact ⟨rfl, HS.out⟩
  | cons r s =>
    obtain ⟨v, m, h⟩ := h.txOpen
    obtain ⟨ht, q0, q1, q2, q3, qf⟩ := h.txCells
    obtain ⟨gb, o, cap, rfl, hcap, hg, x0, x1, xf⟩ := h.up1.freeAt
    have q4 := qf 1
    obtain ⟨a, z⟩ := r
    simp only at x0 x1
    by_cases haz : a = z
    · subst haz
      have hd : dropF ((a, a) :: s) = s := by rw [dropF_cons, if_neg (by simp)]
      rw [hd]
      have ho := run_off1 gb o s.length cap hcap
      have h1 := (h.up1.freeTail).up1
      generalize (if cap = 1 then some (⟨gb, o, none⟩ : Addr) else some ⟨gb, o + 2, none⟩) = ao at ho h1
      have K : Hid (∀ nq, ((w.drewN nq).cell? ⟨t, 1, none⟩ = some (.slice (some ⟨gb, o, none⟩) (s.length + 1) cap) ∧ (w.drewN nq).frozen? ⟨t, 1, none⟩ = false ∧ t < (w.drewN nq).heap.size) ∧ Sep B w0 ((w.drewN nq).setCell ⟨t, 1, none⟩ (.slice ao s.length (cap - 1))) (Tx t f ⟨s, p, g, c⟩ :: l)) := fun nq => by
        refine ⟨⟨q1, q4, ht⟩, ?_⟩
        exact Sep.txShut (m := m) (x := ⟨s, p, g, c⟩) ((h1.drewN nq).blkPut (i := 1) (.slice ao s.length (cap - 1)))
      clear h h1
      go_enter Tryz.func46, Tryz.ntmps46
      go_wp2_with fail
      go_quiet (fail)
      obtain ⟨⟨q5, q6, q7⟩, s1⟩ := K.out nq
      have S1 : Hid _ := s1
      clear K s1 q0 q1 q2 q3 qf q4 x0 x1 xf ht hg
      generalize w.drewN nq = wq at *
      go_wp2
      go_ret2
      exact ⟨rfl, S1.out⟩
    · have hlt : a < z := by have := (cn_cons.1 hc).1.2.1; simp only at this; omega
      have hm : z ≤ 4294967295 := (cn_cons.1 hc).1.2.2
      have h0 : 0 ≤ a := (cn_cons.1 hc).1.1
      have hd : dropF ((a, z) :: s) = (a + 1, z) :: s := by rw [dropF_cons, if_pos hlt]
      rw [hd]
      have hw : wrap64 (a + 1) = a + 1 := w64 (by omega) (by omega)
      have K : Hid (∀ nq, ((w.drewN nq).cell? ⟨gb, o, none⟩ = some (.int .i64 a) ∧ (w.drewN nq).frozen? ⟨gb, o, none⟩ = false ∧ gb < (w.drewN nq).heap.size) ∧ Sep B w0 ((w.drewN nq).setCell ⟨gb, o, none⟩ (.int .i64 (a + 1))) (Tx t f ⟨(a + 1, z) :: s, p, g, c⟩ :: l)) := fun nq => ⟨⟨x0, xf, hg⟩, Sep.txShut (m := m) (x := ⟨(a + 1, z) :: s, p, g, c⟩) ((h.drewN nq).up1.freeSet (a' := a + 1)).up1⟩
      clear h
      go_enter Tryz.func46, Tryz.ntmps46
      go_wp2_with fail
      go_quiet (fail)
      obtain ⟨⟨q5, q6, q7⟩, s1⟩ := K.out nq
      have S1 : Hid _ := s1
      clear K s1 q0 q1 q2 q3 qf q4 x0 x1 xf ht hg
      generalize w.drewN nq = wq at *
      go_wp2
      go_ret2
      exact ⟨rfl, S1.out⟩

end
end Go.Proofs.YtnngfkjbbedkpaaGreatDoor

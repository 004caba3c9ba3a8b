/-
  The walk of the document's Runs.
-/
import Derived.Test.YtnngfkjbbedkpaaGreatDoorAlRef8
namespace Go.Proofs.YtnngfkjbbedkpaaGreatDoor
open Go.Shelf Go.RowKit Go.Lib Go.Sort
set_option linter.unusedVariables false

section
variable {B : Nat} {w0 w : World} {l : List Res} {r g c : Nat} {x : TX} {y : RX} {d : Dk}
set_option maxRecDepth 100000 in
set_option maxHeartbeats 4000000 in
theorem rruns (h : Sep B w0 w (RTx r g y :: l)) {room : Nat} (hR : Rel x y) (ok : x.Ok room) (hm : room ≤ 16384) : Calls Tryz.prog 25 #[ptr r] w fun e w' => ∃ v, e = .returned v ∧ Row encP 2 w' v x.free ∧ Below w.heap.size w w' := by
  have hp2 := ok.p2
  have hpr := ok.pr
  obtain ⟨P, hP⟩ : ∃ P, x.pages = P := ⟨_, rfl⟩
  have LL := hR.len
  have HRel : Hid (Rel x y) := hR
  have OK : Hid (x.Ok room) := ok
  have HP : Hid (x.pages = P) := hP
  have HS : Hid (Sep B w0 w (RTx r g y :: l)) := h
  rw [hP] at hp2 hpr LL
  clear h hR ok hP
  go_enter Tryz.func25, Tryz.ntmps25
  go_wp2
  go_loopg [3, 4] P (fun kx s3 s4 wr => ∃ (i : Nat) (Li : List Pr) (la : Option Addr) (ln lc : Nat), s3 = .slice la ln lc ∧ s4 = .int .i64 i ∧ i ≤ P ∧ P - i ≤ kx ∧ Aside (Row encP 2 wr (.slice la ln lc) Li) ∧ Hid (Cn Li ∧ (∀ n, InR Li n ↔ n < (i : Int) ∧ InR x.free n) ∧ Li.length ≤ i) ∧ Hid (Below w.heap.size w wr))
  case atStart => exact ⟨0, [], none, 0, 0, rfl, rfl, Nat.zero_le _, Nat.le_refl _, Own.row (Own.nil (base := 0)), ⟨Cn.nil, fun n => ⟨fun h => absurd h (inR_nil n), fun h => by have := OK.out.fr n h.2; omega⟩, Nat.le_refl _⟩, Below.refl _ _⟩
  case round =>
    obtain ⟨i, Li, la, ln, lc, rfl, rfl, hi, hki, RR, KR, BR⟩ := hrel
    have l1 := LL.l1
    have SR := HS.out.below BR.out
    obtain ⟨v1, v2, v3, v4, v5, h0⟩ := SR.rtxOpen
    by_cases hil : i < P
    · have hilz : (i : Int) < (P : Int) := by omega
      have hip : i < x.pages := by rw [HP.out]; exact hil
      obtain ⟨q1, c1, e1, hq1, k1, _⟩ := brow_at (n := i) h0.up1 (by omega)
      subst e1
      rw [l1] at h0
      obtain ⟨hr0, m0, m1, m2, m3, m4, m5, _⟩ := rtx_cells h0
      have F1 := HRel.out.fr i hip
      obtain ⟨K1, K2, K3⟩ := KR.out
      cases hbf : bAt y.free i with
      | false =>
        rw [hbf] at k1 F1
        have KR2 : Hid (Cn Li ∧ (∀ n, InR Li n ↔ n < ((i + 1 : Nat) : Int) ∧ InR x.free n) ∧ Li.length ≤ i + 1) := by
          refine ⟨K1, fun n => ?_, by omega⟩
          rw [K2]
          constructor
          · rintro ⟨a, b⟩; exact ⟨by omega, b⟩
          · rintro ⟨a, b⟩
            refine ⟨?_, b⟩
            rcases Int.lt_or_le n (i : Int) with h1 | h1
            · exact h1
            · rw [show n = (i : Int) by omega, ← hasB_iff, ← F1] at b; cases b
        clear h0 SR KR F1 K1 K2 K3
        go_wp2
        go_roundg (P - (i + 1))
        case measure => omega
        case rel => exact ⟨i + 1, Li, la, ln, lc, rfl, by go_num, by omega, Nat.le_refl _, RR, KR2, BR⟩
      | true =>
        rw [hbf] at k1 F1
        have hin : InR x.free (i : Int) := (hasB_iff _ _).1 F1.symm
        have CP : Hid _ := rput_any _ Li ((i : Int), (i : Int)) wr RR.out (by omega) K1
        obtain ⟨P1, P2⟩ := putL_cn Li ((i : Int), (i : Int)) K1
        have P3 := putL_length Li ((i : Int), (i : Int))
        have KR2 : Hid (Cn (putL Li ((i : Int), (i : Int))) ∧ (∀ n, InR (putL Li ((i : Int), (i : Int))) n ↔ n < ((i + 1 : Nat) : Int) ∧ InR x.free n) ∧ (putL Li ((i : Int), (i : Int))).length ≤ i + 1) := by
          refine ⟨P1, fun n => ?_, by omega⟩
          rw [P2, inR_cons, K2]
          constructor
          · rintro (a | ⟨a, b⟩)
            · simp only at a; exact ⟨by omega, by rw [show n = (i : Int) by omega]; exact hin⟩
            · exact ⟨by omega, b⟩
          · rintro ⟨a, b⟩
            have hb := OK.out.fr n b
            rcases Int.lt_or_le n (i : Int) with h1 | h1
            · exact .inr ⟨h1, b⟩
            · left; simp only; omega
        generalize putL Li ((i : Int), (i : Int)) = L2 at *
        clear h0 SR KR F1 K1 K2 K3 P1 P2 P3
        go_wp2_with fail
        refine Calls.mono CP.out ?_
        rintro e w4 ⟨v4', rfl, r4, b4⟩
        obtain ⟨la2, lc2, rfl, _⟩ := id r4
        have RR2 : Aside (Row encP 2 w4 (.slice la2 L2.length lc2) L2) := r4
        have BR2 : Hid (Below w.heap.size w w4) := BR.out.trans (b4.mono BR.out.size)
        clear CP r4 b4 BR
        go_wp2
        go_roundg (P - (i + 1))
        case measure => omega
        case rel => exact ⟨i + 1, L2, la2, L2.length, lc2, rfl, by go_num, by omega, Nat.le_refl _, RR2, KR2, BR2⟩
    · have hilz : ¬ (i : Int) < (P : Int) := by omega
      obtain rfl : i = P := by omega
      have EQ : Hid (Li = x.free) := cn_ext _ _ KR.out.1 OK.out.cn fun n => by
        rw [KR.out.2.1]
        constructor
        · exact fun h => h.2
        · intro h
          have := OK.out.fr n h
          rw [HP.out] at this
          exact ⟨this.2, h⟩
      obtain ⟨q1, c1, e1, hq1, _, _⟩ := brow_at (n := 0) h0.up1 (by omega)
      subst e1
      rw [l1] at h0
      obtain ⟨hr0, m0, m1, m2, m3, m4, m5, _⟩ := rtx_cells h0
      clear h0 SR KR
      go_wp2
      go_ret
      exact ⟨_, rfl, EQ.out ▸ RR.out, BR.out⟩
end

end Go.Proofs.YtnngfkjbbedkpaaGreatDoor

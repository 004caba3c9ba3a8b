/-
  The walk of the function that slices.Backward answers, at entries, and at no numbers.
-/
import Derived.Test.YtljmkajpjjdnhaaGreatDoorTdRow
namespace Go.Proofs.YtljmkajpjjdnhaaGreatDoor.N
open Go.Shelf Go.RowKit Go.Lib Go.Sort
set_option linter.unusedVariables false

attribute [local go_sem] Oper.semAt_some

set_option maxRecDepth 100000 in
set_option maxHeartbeats 4000000 in
theorem bw_in (l m bs : Nat) (ao : Option Addr) (cap : Nat) (es : List En) (hl : es.length ≤ 1000000) (J : Nat → World → Prop)
    (hM : ∀ i W, J i W → W.cell? ⟨bs, 0, none⟩ = some (.slice ao es.length cap) ∧ Row encP 2 W (.slice ao es.length cap) es)
    (hY : ∀ (i : Nat) W, i < es.length → J (i + 1) W → YieldAt Fence.wide m Tryz.prog l #[.int .i64 (i : Int), .agg #[.string es[i]!.1, .string es[i]!.2]] W fun e W' => e = .returned (.bool true) ∧ J i W')
    (W : World) (h0 : J es.length W) :
    CallsIn Fence.wide (m + 1) Tryz.prog 64 #[.func (.yield l) #[] #[], .pointer (some ⟨bs, 0, none⟩)] W fun e W' => (∃ v, e = .returned v) ∧ J 0 W' := by
  have HM : Hid _ := hM
  have HY : Hid _ := hY
  clear hM hY
  have c0 := (HM.out _ _ h0).1
  have e1 : wrap64 ((es.length : Int) - 1) = (es.length : Int) - 1 := by unfold wrap64; omega
  refine callsIn_of_wp Tryz.func64 rfl trivial ?_ rfl
  simp only [Tryz.ntmps64, List.size_toArray, List.length_cons, List.length_nil, Nat.reduceAdd, Nat.reduceSub, Array.replicate_succ, Array.replicate_zero, List.push_toArray, List.append_toArray, List.nil_append, List.cons_append]
  gi_wp2
  clear e1
  gi_loopg [3] es.length (fun kx s3 wr => ∃ i : Nat, s3 = .int .i64 ((i : Int) - 1) ∧ i ≤ es.length ∧ i = kx ∧ Hid (J i wr))
  case atStart => exact ⟨es.length, rfl, Nat.le_refl _, rfl, h0⟩
  case round =>
    obtain ⟨i, rfl, hi, rfl, HJ⟩ := hrel
    clear c0
    cases i with
    | zero =>
      have hge : ¬ (0 : Int) ≤ ((0 : Nat) : Int) - 1 := by omega
      gi_wp2
      go_end0
      exact ⟨⟨_, rfl⟩, HJ.out⟩
    | succ i =>
      have e2 : (((i + 1 : Nat) : Int) - 1) = (i : Int) := by omega
      rw [e2]
      have hge : (0 : Int) ≤ (i : Int) := by omega
      have hlt : (i : Int) < (es.length : Int) := by omega
      have e3 : wrap64 ((i : Int) - 1) = (i : Int) - 1 := by unfold wrap64; omega
      obtain ⟨c0, r0⟩ := HM.out _ _ HJ.out
      obtain ⟨_, _, ee, _, _, r3⟩ := r0
      cases ee
      obtain ⟨b, off, rfl, hb, x1, x2⟩ := row_at r3 i (by omega) (Below.refl _ wr)
      obtain ⟨fn, tmps, assign, body, hy, hRd⟩ := HY.out i wr (by omega) HJ.out
      clear r3
      generalize es[i]! = x at *
      gi_wp2
      refine hRd.mono ?_
      rintro e W3 ⟨rfl, hJ3⟩
      have HJ3 : Hid _ := hJ3
      clear hJ3 hRd hy
      gi_wp2
      go_roundg i
      case measure => omega
      case rel => exact ⟨i, rfl, by omega, rfl, HJ3⟩

end Go.Proofs.YtljmkajpjjdnhaaGreatDoor.N

/-
  The reference's New.
-/
import Derived.Test.YtkbakmgjplhjiaaDoorRefSync
namespace Go.Proofs.YtkbakmgjplhjiaaDoor
open Go.RowKit
set_option linter.unusedVariables false

/-- append of one text, as one step of a region that draws. -/
theorem step_str {ops : Array Oper} {o : Oper} {a : Act} {w : World} {K : Act → World → Prop} {Q : Exit → Act → World → Prop} {E : Prop}
    (hg : o.guard = none) (s x : Operand) (hop : o.op = Op.call { callee := Callee.builtin Builtin.append, args := #[s, x], argTypes := #[46, 46] })
    (v : Value) (cs : List Value) (hs : a.eval s = v) (hown : w.ownsRow 0 9 1 v cs.length cs) (r c : Nat) (t : ByteArray) (hx : a.eval x = .slice (some ⟨r, 0, none⟩) 1 c)
    (c0 : w.cell? ⟨r, 0, none⟩ = some (.string t)) (hl : cs.length < 100000)
    (hK : ∀ ao n' c' w', w'.ownsRow 0 9 1 (.slice ao n' c') (cs.length + 1) (cs ++ [.string t]) → w.grownBy w' v.ownBlock → ((Value.slice ao n' c').ownBlock = v.ownBlock ∨ (Value.slice ao n' c').ownBlock = some w.heap.size) → K (a.put o.dst (.slice ao n' c')) w') :
    if Region.wanted o (yielded ops a.tmps) = true then Oper.wp Tryd.prog o a w K Q else E := by
  have hw : Region.wanted o (yielded ops a.tmps) = true := by simp [Region.wanted, hg]
  rw [if_pos hw]
  obtain ⟨i0, hi, hz0, hz1, hz2⟩ := info_parts infoStr
  obtain ⟨v', w', hr, h2, h3, h4, h5⟩ := run_append_own_at (P := Tryd.prog) w 0 46 o.type 9 i0 _ 1 16 Tryd.underlying46 hi hz0 hz1 hz2 rfl (by decide) v cs.length cs hown ⟨r, 0, none⟩ 1 c [.string t] rfl (fun j u hj => by
    match j, hj with
    | 0, hj => simp at hj; subst hj; exact c0
    | j + 1, hj => simp at hj) (fun u hu => by simp at hu; subst hu; rfl) (by unfold maxLen; omega) (by omega) (Nat.zero_le _)
  obtain ⟨ao, c', rfl⟩ := slice_of h2
  unfold Oper.wp
  simp [execOp, hop, resolve, invoke, builtin, hs, hx, hr, Result.andThen]
  exact hK _ _ _ _ h2 h3 h5

/-- What New has laid behind k rounds. -/
structure RNew (w0 : World) (w : World) (sv : Value) (k : Nat) : Prop where
  blk : w.heap[w0.heap.size]? = some (.cells #[sv, .slice none 0 0, .bool false, .int .i64 (-1), .int .i64 0, .int .i64 0] 49 (0, 0))
  row : w.ownsRow 0 9 1 sv k ((List.replicate k zeroS).map Value.string)
  bel : Below w0.heap.size w0 w
  own : ∀ j, sv.ownBlock = some j → w0.heap.size < j
theorem RNew.step {w0 w w1 w2 : World} {sv v' : Value} {k : Nat} (h : RNew w0 w sv k) (hw : Below w.heap.size w w1) (hg : w1.grownBy w2 sv.ownBlock) (ho : w2.ownsRow 0 9 1 v' (k + 1) ((List.replicate k zeroS).map Value.string ++ [.string zeroS]))
    (hl : v'.ownBlock = sv.ownBlock ∨ v'.ownBlock = some w1.heap.size) : RNew w0 (w2.setCell ⟨w0.heap.size, 0, none⟩ v') v' (k + 1) := by
  have hb : w0.heap.size < w.heap.size := (Array.getElem?_eq_some_iff.1 h.blk).1
  have s1 := hw.size
  have e0 : w2.heap[w0.heap.size]? = w.heap[w0.heap.size]? := (hg.block _ (by omega) (fun e => by have := h.own _ e.symm; omega)).trans (hw.block _ hb)
  have hv : ∀ j, v'.ownBlock = some j → w0.heap.size < j := fun j hj => by
    rcases hl with e | e
    · exact h.own j (e ▸ hj)
    · rw [hj] at e; have := Option.some.inj e; omega
  refine ⟨?_, ?_, ?_, hv⟩
  · rw [heap_setCell_same _ w0.heap.size 0 _ _ _ (e0.trans h.blk)]; rfl
  · have e1 : (List.replicate (k + 1) zeroS).map Value.string = (List.replicate k zeroS).map Value.string ++ [.string zeroS] := by rw [List.replicate_succ']; simp
    rw [e1]
    exact ownsRow_kept' ho (fun j hj => Below.heap_setCell _ _ _ _ (by have := hv j hj; show j ≠ w0.heap.size; omega))
  · refine (h.bel.trans (hw.mono (by omega))).trans ⟨hg.os, hg.tape, hg.output, by have := hg.size; simp [World.setCell]; omega, fun j hj => ?_⟩
    rw [Below.heap_setCell _ _ _ _ (by show j ≠ w0.heap.size; omega)]
    exact hg.block j (by omega) (fun e => by have := h.own _ e.symm; omega)

/-- The reference's disk. -/
def RefD (b : Nat) (d : Dk) : Res := fun w X => (∃ sv wv, RMem w b sv wv d ∧ X b ∧ (∀ k, sv.ownBlock = some k → X k) ∧ ∀ k, wv.ownBlock = some k → X k) ∧ ∀ k, X k → k < w.heap.size
theorem good_ref (b : Nat) (d : Dk) : Good (RefD b d) :=
  ⟨fun w w' X h hk hs => by
    obtain ⟨⟨sv, wv, hM, xb, xs, xw⟩, hl⟩ := h
    exact ⟨⟨sv, wv, hM.kept (hk _ xb) (fun k h => hk k (xs k h)) (fun k h => hk k (xw k h)), xb, xs, xw⟩, fun k hk => Nat.lt_of_lt_of_le (hl k hk) hs⟩, fun w X h => h.2⟩

set_option maxHeartbeats 4000000 in
set_option maxRecDepth 100000 in
theorem new_r (n : Int) (w : World) : Calls Tryd.prog 10 #[.int .i64 n] w fun e w' => e = .returned (ptr w.heap.size) ∧ Below w.heap.size w w' ∧ RefD w.heap.size (Dk.new n) w' (fun k => w.heap.size ≤ k ∧ k < w'.heap.size) := by
  obtain ⟨N, hN⟩ : ∃ N : Nat, N = (min (max n 0) 16384).toNat := ⟨_, rfl⟩
  have hNl : N ≤ 16384 := by omega
  have HD : Hid (Dk.new n = ⟨List.replicate N zeroS, [], none, false, 0, 0⟩) := by show Dk.new n = _; unfold Dk.new; rw [hN]
  have OKD : Hid ((Dk.new n).Ok) := Dk.new_ok n
  have hmx : min (max n 0) 16384 = (N : Int) := by omega
  clear hN
  have R0 : Hid (RNew w (w.alloc (.cells #[.slice none 0 0, .slice none 0 0, .bool false, .int .i64 (-1), .int .i64 0, .int .i64 0] 49)) (.slice none 0 0) 0) :=
    ⟨heap_alloc_new w _, World.ownsRow_nil _ _ _ _, (Below.refl _ _).alloc (Nat.le_refl _) _, fun j hj => by simp [Value.ownBlock] at hj⟩
  go_enter Tryd.func10, Tryd.ntmps10
  go_wp2
  go_loopg [4] N (fun gk s4 wr => ∃ (k : Nat) (ao : Option Addr) (nn cc : Nat), s4 = .int .i64 k ∧ k ≤ N ∧ N - k ≤ gk ∧ Aside (RNew w wr (.slice ao nn cc) k))
  case atStart => exact ⟨0, none, 0, 0, rfl, Nat.zero_le _, Nat.le_refl _, R0.out⟩
  case round =>
    obtain ⟨k, ao, nn, cc, rfl, hk, hgk, R⟩ := hrel
    have hb : w.heap.size < wr.heap.size := (Array.getElem?_eq_some_iff.1 R.out.blk).1
    have c0 : wr.cell? ⟨w.heap.size, 0, none⟩ = some (.slice ao nn cc) := by simp [World.cell?, R.out.blk]
    have f0 : wr.frozen? ⟨w.heap.size, 0, none⟩ = false := by simp [World.frozen?, R.out.blk]
    by_cases hkl : k < N
    · have hkz : (k : Int) < (N : Int) := by omega
      have ZC : Hid (∀ u, Calls Tryd.prog 31 #[] u fun e w' => e = .returned (.string zeroS) ∧ u = w') := zero_c
      obtain ⟨z, hz⟩ : ∃ z, z = zeroS := ⟨_, rfl⟩
      rw [← hz] at ZC
      have HZ : Hid (z = zeroS) := hz
      clear hz
      go_wp2
      go_region_law (first | (refine step_str rfl _ _ rfl (.slice ao nn cc) ((List.replicate k zeroS).map Value.string) rfl (by rw [List.length_map, List.length_replicate]; exact ownsRow_kept' R.out.row (fun j hj => Below.heap_alloc _ _ _ (R.out.row.lt j hj).2)) wr.heap.size 1 z rfl (by simp) (by simp; omega) ?_; intro a2 n2 c2 w2 ho hg hloc; have HO : Hid (w2.ownsRow 0 9 1 (.slice a2 n2 c2) (((List.replicate k zeroS).map Value.string).length + 1) ((List.replicate k zeroS).map Value.string ++ [.string z])) := ho; have HG : Hid ((wr.alloc (.cells #[.string z] 9)).drew.grownBy w2 (Value.slice ao nn cc).ownBlock) := hg; have HL : Hid ((Value.slice a2 n2 c2).ownBlock = (Value.slice ao nn cc).ownBlock ∨ (Value.slice a2 n2 c2).ownBlock = some (wr.alloc (.cells #[.string z] 9)).drew.heap.size) := hloc; have hb2 : w2.heap[w.heap.size]? = wr.heap[w.heap.size]? := (hg.block _ (by simp; omega) (fun e => by have := R.out.own _ e.symm; omega)).trans (Below.heap_alloc _ _ _ hb); have cb : w2.cell? ⟨w.heap.size, 0, none⟩ = some (.slice ao nn cc) := (World.cell?_of_block (a := ⟨w.heap.size, 0, none⟩) hb2).trans c0; have fb : w2.frozen? ⟨w.heap.size, 0, none⟩ = false := (World.frozen?_of_block (a := ⟨w.heap.size, 0, none⟩) hb2).trans f0; clear ho hg hloc hb2) | (go_simp; refine Calls.mono (ZC.out _) ?_; rintro e w5 ⟨rfl, rfl⟩; dsimp only))
      all_goals
        have R2 : Hid (RNew w (w2.setCell ⟨w.heap.size, 0, none⟩ (.slice a2 n2 c2)) (.slice a2 n2 c2) (k + 1)) := by
          have ho := HO.out
          rw [List.length_map, List.length_replicate, HZ.out] at ho
          exact RNew.step R.out (((Below.refl _ wr).alloc (Nat.le_refl _) (.cells #[.string z] 9)).drew) HG.out ho HL.out
        clear HO HG HL cb fb
        go_wp2
        go_roundg (N - (k + 1))
        case measure => omega
        case rel => exact ⟨k + 1, a2, n2, c2, by go_num, by omega, Nat.le_refl _, R2.out⟩
    · have hkz : ¬ (k : Int) < (N : Int) := by omega
      obtain rfl : k = N := by omega
      have fin : Below w.heap.size w wr ∧ RefD w.heap.size (Dk.new n) wr (fun k => w.heap.size ≤ k ∧ k < wr.heap.size) := by
        have r := R.out
        refine ⟨r.bel, ⟨.slice ao nn cc, .slice none 0 0, ?_, ⟨Nat.le_refl _, hb⟩, fun j hj => ⟨Nat.le_of_lt (r.own j hj), (r.row.lt j hj).2⟩, fun j hj => by simp [Value.ownBlock] at hj⟩, fun k hk => hk.2⟩
        have OK := OKD.out
        rw [HD.out] at OK ⊢
        refine ⟨r.blk, ?_, World.ownsRow_nil _ _ _ _, OK, fun e => by have := r.own _ e; omega, by simp [Value.ownBlock], fun k _ => by simp [Value.ownBlock]⟩
        show wr.ownsRow 0 9 1 _ (List.replicate k zeroS).length _
        rw [List.length_replicate]
        exact r.row
      have FIN : Hid (Below w.heap.size w wr ∧ RefD w.heap.size (Dk.new n) wr (fun k => w.heap.size ≤ k ∧ k < wr.heap.size)) := fin
      clear fin
      go_wp2
      go_ret
      exact ⟨rfl, FIN.out⟩

end Go.Proofs.YtkbakmgjplhjiaaDoor

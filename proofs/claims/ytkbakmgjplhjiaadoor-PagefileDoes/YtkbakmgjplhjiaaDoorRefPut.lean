/-
  The reference's Put, Sync, New.
-/
import Derived.Test.YtkbakmgjplhjiaaDoorRefMem
namespace Go.Proofs.YtkbakmgjplhjiaaDoor
open Go.RowKit
set_option linter.unusedVariables false
section
variable {w w' : World} {b : Nat} {sv wv : Value} {d : Dk}

theorem infoWriteR : (Tryd.prog.info? 81).map (fun i => (i.zero, i.size, i.bytes)) = some (some (.agg #[.int .i64 0, .string ByteArray.empty]), 2, 24) := by kernel_rfl

/-- append of one write of the reference's. -/
theorem app_writeR {ops : Array Oper} {rest : List Oper} {o : Oper} {a : Act} {Q : Exit → Act → World → Prop} {w : World} (hgd : o.guard = .none) (s x : Operand) (ho : o.op = .call { callee := .builtin .append, args := #[s, x], argTypes := #[47, 47] })
    (v : Value) (l : List Wr) (hs : a.eval s = v) (hown : w.ownsRow 0 81 2 v l.length (flatW l)) (r c : Nat) (hx : a.eval x = .slice (some ⟨r, 0, none⟩) 1 c) (p : Wr)
    (c0 : w.cell? ⟨r, 0, none⟩ = some (.int .i64 p.1)) (c1 : w.cell? ⟨r, 1, none⟩ = some (.string p.2)) (hl : l.length < 100000)
    (hK : ∀ ao n' c' w', w'.ownsRow 0 81 2 (.slice ao n' c') (l ++ [p]).length (flatW (l ++ [p])) → w.grownBy w' v.ownBlock → ((Value.slice ao n' c').ownBlock = v.ownBlock ∨ (Value.slice ao n' c').ownBlock = some w.heap.size) → wpList Tryd.prog ops Q rest (a.put o.dst (.slice ao n' c')) w') : wpList Tryd.prog ops Q (o :: rest) a w := by
  obtain ⟨i0, hi, hz0, hz1, hz2⟩ := info_parts infoWriteR
  refine wpList_append_own_at w hgd s x 47 ho 0 81 i0 _ 2 24 Tryd.underlying47 hi hz0 hz1 hz2 rfl (by decide) v l.length (flatW l) hs hown ⟨r, 0, none⟩ 1 c [.int .i64 p.1, .string p.2] hx rfl (fun j u hj => ?_) (fun u hu => by simp at hu; rcases hu with rfl | rfl <;> rfl) (by unfold maxLen; omega) (by omega) (Nat.zero_le _) ?_
  · match j, hj with
    | 0, hj => simp at hj; subst hj; exact c0
    | 1, hj => simp at hj; subst hj; exact c1
    | j + 2, hj => simp at hj
  · intro v' w' h2 h3 _ h5
    obtain ⟨ao, n', c', rfl⟩ : ∃ ao n c, v' = .slice ao n c := by
      rcases h2.2 with ⟨h, _⟩ | ⟨g, cap, cur, h, _⟩
      · exact ⟨_, _, _, h⟩
      · exact ⟨_, _, _, h⟩
    refine hK _ _ _ _ ?_ h3 h5
    rw [flatW_snoc]
    simpa using h2

theorem put_mid {w2 : World} {v' : Value} {o : Obj} (h : RMem w b sv wv d) (n : Nat) (hn : n < d.sure.length) (s : ByteArray) (hs : s.size = 256) (hG : (w.alloc o).grownBy w2 wv.ownBlock)
    (hO : w2.ownsRow 0 81 2 v' (d.pend ++ [(n, s)]).length (flatW (d.pend ++ [(n, s)]))) (hL : v'.ownBlock = wv.ownBlock ∨ v'.ownBlock = some (w.heap.size + 1)) :
    RMem (w2.setCell ⟨b, 1, none⟩ v') b sv v' { d with pend := d.pend ++ [(n, s)] } ∧ Turn (fun k => k = b ∨ wv.ownBlock = some k) w (w2.setCell ⟨b, 1, none⟩ v') := by
  have k2 : ∀ k, k < w.heap.size → wv.ownBlock ≠ some k → w2.heap[k]? = w.heap[k]? := fun k hk hp => (hG.block k (by simp; omega) (Ne.symm hp)).trans (Below.heap_alloc w _ k hk)
  have e3 : ∀ k, k ≠ b → (w2.setCell ⟨b, 1, none⟩ v').heap[k]? = w2.heap[k]? := fun k hk => Below.heap_setCell _ _ _ _ hk
  have hvb : ∀ k, v'.ownBlock = some k → k ≠ b := fun k hk => by
    rcases hL with e | e
    · exact fun e2 => h.wb (by rw [← e, hk, e2])
    · rw [hk] at e
      have e2 : k = w.heap.size + 1 := Option.some.inj e
      have := h.bl
      omega
  refine ⟨⟨?_, ?_, ownsRow_kept' hO (fun k hk => e3 k (hvb k hk)), ⟨h.ok.len, h.ok.sz, fun p hp => ?_, h.ok.brk⟩, h.sb, fun e => hvb _ e rfl, fun k hk e => ?_⟩, ?_⟩
  · have hb2 := k2 b h.bl h.wb
    simp [World.setCell, Array.getElem?_modify, hb2, h.blk]
    rfl
  · exact ownsRow_kept' h.row (fun k hk => (e3 k (fun e => h.sb (by rw [hk, e]))).trans (k2 k (h.row.lt k hk).2 (h.sw k hk)))
  · rcases List.mem_append.1 hp with h1 | h1
    · exact h.ok.pd p h1
    · simp only [List.mem_singleton] at h1
      subst h1
      exact ⟨hn, hs⟩
  · rcases hL with e1 | e1
    · exact h.sw k hk (e1 ▸ e)
    · rw [e] at e1
      have := (h.row.lt k hk).2
      have := Option.some.inj e1
      omega
  · refine ⟨hG.os, hG.tape, hG.output, ?_, fun k hk hx => ?_⟩
    · have := hG.size; simp [World.setCell] at this ⊢; omega
    · exact (e3 k (fun e => hx (.inl e))).trans (k2 k hk (fun e => hx (.inr e)))

theorem brkI_none {d : Dk} (h : d.brk = none) : d.brkI = -1 := by unfold Dk.brkI; rw [h]
theorem brkI_some {d : Dk} {k : Nat} (h : d.brk = some k) : d.brkI = k := by unfold Dk.brkI; rw [h]

/-- The disk, whatever block its pending writes lie in. -/
def RD (w : World) (b : Nat) (sv wv0 : Value) (n0 : Nat) (d : Dk) : Prop := ∃ wv, RMem w b sv wv d ∧ ∀ k, wv.ownBlock = some k → wv0.ownBlock = some k ∨ n0 ≤ k

set_option maxHeartbeats 2000000 in
set_option maxRecDepth 100000 in
theorem put_ok_r (h : RMem w b sv wv d) (n : Nat) (hn : n < d.sure.length) (s : ByteArray) (hs : s.size = 256) (hd : d.down = false) (hl : d.pend.length < 100000) :
    Calls Tryd.prog 27 #[ptr b, .int .i64 n, .string s] w fun e w' => e = .returned (.int .i64 (d.put n s).1) ∧ Turn (fun k => k = b ∨ wv.ownBlock = some k) w w' ∧ RD w' b sv wv w.heap.size (d.put n s).2 := by
  have H : Hid (RMem w b sv wv d) := h
  have c0 := h.c0; have c1 := h.c1; have c2 := h.c2; have f1 := h.fz 1; have lt := h.bl; have hsl := h.ok.len
  obtain ⟨asv, csv, es⟩ := h.sv_slice
  rw [es] at c0
  rw [hd] at c2
  have h1z : ¬ (d.sure.length : Int) ≤ (n : Int) := by omega
  have HP : Hid (d.put n s = { d with pend := d.pend ++ [(n, s)], writes := wrap64 (d.writes + 1) : Dk }.tick) := Dk.put_ok hd (Dk.has_nat hn) hs
  have PN : Hid (w.ownsRow 0 81 2 wv d.pend.length (flatW d.pend)) := h.wt
  have PA : Hid ((w.alloc (.cells #[.int .i64 n, .string s] 81)).ownsRow 0 81 2 wv d.pend.length (flatW d.pend)) := (h.alloc _).wt
  clear h es
  go_enter Tryd.func27, Tryd.ntmps27
  go_wp2_with (at_builtin; refine app_writeR rfl _ _ rfl wv d.pend rfl PA.out w.heap.size 1 rfl (n, s) (by simp) (by simp) hl ?_)
  intro ao n' c' w2 ho hg hloc
  have HG2 : Hid ((w.alloc (.cells #[.int .i64 n, .string s] 81)).grownBy w2 wv.ownBlock) := hg
  have HL2 : Hid ((Value.slice ao n' c').ownBlock = wv.ownBlock ∨ (Value.slice ao n' c').ownBlock = some (w.heap.size + 1)) := by show _ ∨ _; simpa using hloc
  have HO2 : Hid (w2.ownsRow 0 81 2 (.slice ao n' c') (d.pend ++ [(n, s)]).length (flatW (d.pend ++ [(n, s)]))) := by show w2.ownsRow _ _ _ _ _ _; rw [List.length_append]; exact ho
  have hb2 : w2.heap[b]? = w.heap[b]? := (hg.block b (by simp; omega) H.out.wb.symm).trans (Below.heap_alloc _ _ _ lt)
  have cb2 : w2.cell? ⟨b, 1, none⟩ = some wv := (World.cell?_of_block (a := ⟨b, 1, none⟩) hb2).trans c1
  have fb2 : w2.frozen? ⟨b, 1, none⟩ = false := (World.frozen?_of_block (a := ⟨b, 1, none⟩) hb2).trans f1
  obtain ⟨hM3, hT3⟩ := put_mid H.out n hn s hs HG2.out HO2.out HL2.out
  have cc : ∀ j, w2.cell? ⟨b, j, none⟩ = w.cell? ⟨b, j, none⟩ := fun j => World.cell?_of_block (a := ⟨b, j, none⟩) hb2
  have ff : ∀ j, w2.frozen? ⟨b, j, none⟩ = w.frozen? ⟨b, j, none⟩ := fun j => World.frozen?_of_block (a := ⟨b, j, none⟩) hb2
  have k5 := (cc 5).trans H.out.c5; have g5 := (ff 5).trans (H.out.fz 5); have k3 := (cc 3).trans H.out.c3; have g3 := (ff 3).trans (H.out.fz 3); have k2 := (cc 2).trans H.out.c2; have g2 := (ff 2).trans (H.out.fz 2)
  have lt2 : b < w2.heap.size := by have := hg.size; simp at this; omega
  have T3 : Hid (Turn (fun k => k = b ∨ wv.ownBlock = some k) w (w2.setCell ⟨b, 1, none⟩ (.slice ao n' c'))) := hT3
  have BL : Hid (∀ k, (Value.slice ao n' c').ownBlock = some k → wv.ownBlock = some k ∨ w.heap.size ≤ k) := fun k hk => by
    rcases HL2.out with e | e
    · exact .inl (e ▸ hk)
    · rw [hk] at e; exact .inr (by have := Option.some.inj e; omega)
  have H7 : Hid (RMem ((w2.setCell ⟨b, 1, none⟩ (.slice ao n' c')).setCell ⟨b, 5, none⟩ (.int .i64 (wrap64 (d.writes + 1)))) b sv (.slice ao n' c') { d with pend := d.pend ++ [(n, s)], writes := wrap64 (d.writes + 1) }) :=
    hM3.upd (OnlyD.setCell b 5 _ _) rfl rfl (by rw [heap_setCell_same _ b 5 _ _ _ hM3.blk]; rfl) ⟨hM3.ok.len, hM3.ok.sz, hM3.ok.pd, hM3.ok.brk⟩
  have T7 : Hid (Turn (fun k => k = b ∨ wv.ownBlock = some k) w ((w2.setCell ⟨b, 1, none⟩ (.slice ao n' c')).setCell ⟨b, 5, none⟩ (.int .i64 (wrap64 (d.writes + 1))))) := T3.out.trans (Turn.setCell (X := fun k => k = b) _ rfl _) (fun _ hk => .inl (.inl hk))
  clear ho hg hloc hb2 hM3 hT3 PA cc ff T3
  cases hbr : d.brk with
  | none =>
    rw [brkI_none hbr] at k3
    have HT : Hid ({ d with pend := d.pend ++ [(n, s)], writes := wrap64 (d.writes + 1) : Dk }.tick = (0, { d with pend := d.pend ++ [(n, s)], writes := wrap64 (d.writes + 1) })) := by show _ = _; unfold Dk.tick; rw [show ({ d with pend := d.pend ++ [(n, s)], writes := wrap64 (d.writes + 1) } : Dk).brk = none from hbr]
    clear hbr
    go_wp2
    go_ret
    rw [HP.out, HT.out]
    exact ⟨rfl, T7.out, _, H7.out, BL.out⟩
  | some k =>
    rw [brkI_some hbr] at k3
    have hk63 : k ≤ 9223372036854775807 := H.out.ok.brk k hbr
    cases k with
    | zero =>
      have HT : Hid ({ d with pend := d.pend ++ [(n, s)], writes := wrap64 (d.writes + 1) : Dk }.tick = (4, { d with pend := d.pend ++ [(n, s)], writes := wrap64 (d.writes + 1), down := true, brk := none })) := by show _ = _; unfold Dk.tick; rw [show ({ d with pend := d.pend ++ [(n, s)], writes := wrap64 (d.writes + 1) } : Dk).brk = some 0 from hbr]
      clear hbr hk63
      go_wp2
      go_ret
      rw [HP.out, HT.out]
      refine ⟨rfl, (T7.out.trans (Turn.setCell (X := fun k => k = b) _ rfl _) (fun _ hk => .inl (.inl hk))).trans (Turn.setCell (X := fun k => k = b) _ rfl _) (fun _ hk => .inl (.inl hk)), _, ?_, BL.out⟩
      have h7 := H7.out
      refine h7.upd ((OnlyD.setCell b 2 _ _).trans (OnlyD.setCell b 3 _ _)) rfl rfl ?_ ⟨h7.ok.len, h7.ok.sz, h7.ok.pd, (fun k hk => by cases hk)⟩
      rw [heap_setCell_same _ b 3 _ _ _ (heap_setCell_same _ b 2 _ _ _ h7.blk)]
      rfl
    | succ k =>
      have HT : Hid ({ d with pend := d.pend ++ [(n, s)], writes := wrap64 (d.writes + 1) : Dk }.tick = (0, { d with pend := d.pend ++ [(n, s)], writes := wrap64 (d.writes + 1), brk := some k })) := by show _ = _; unfold Dk.tick; rw [show ({ d with pend := d.pend ++ [(n, s)], writes := wrap64 (d.writes + 1) } : Dk).brk = some (k + 1) from hbr]
      have ew : wrap64 (((k + 1 : Nat) : Int) - 1) = (k : Int) := by unfold wrap64; omega
      have gt : (0 : Int) < ((k + 1 : Nat) : Int) := by omega
      have ne0 : ((((k + 1 : Nat) : Int)) == 0) = false := beq_eq_false_iff_ne.2 (by omega)
      have HK : Hid (k + 1 ≤ 9223372036854775807) := hk63
      clear hbr hk63
      go_wp2
      go_ret
      rw [HP.out, HT.out]
      refine ⟨rfl, T7.out.trans (Turn.setCell (X := fun k => k = b) _ rfl _) (fun _ hk => .inl (.inl hk)), _, ?_, BL.out⟩
      have h7 := H7.out
      refine h7.upd (OnlyD.setCell b 3 _ _) rfl rfl ?_ ⟨h7.ok.len, h7.ok.sz, h7.ok.pd, (fun j hj => by cases hj; have := HK.out; omega)⟩
      rw [heap_setCell_same _ b 3 _ _ _ h7.blk, show wrap64 (k : Int) = k by unfold wrap64; have := HK.out; omega]
      rfl

set_option maxHeartbeats 1000000 in
theorem put_no_r (h : RMem w b sv wv d) (i : Int) (s : ByteArray) (hno : d.down = true ∨ d.has i = false ∨ s.size ≠ 256) (hsz : s.size ≤ maxLen) :
    Calls Tryd.prog 27 #[ptr b, .int .i64 i, .string s] w fun e w' => e = .returned (.int .i64 (d.put i s).1) ∧ w = w' ∧ (d.put i s).2 = d := by
  have c0 := h.c0; have c2 := h.c2; have lt := h.bl; have hsl := h.ok.len
  obtain ⟨asv, csv, es⟩ := h.sv_slice
  rw [es] at c0
  unfold maxLen at hsz
  clear h es
  by_cases hd : d.down = true
  · have HP : Hid (d.put i s = (4, d)) := Dk.put_down hd
    rw [hd] at c2
    clear hno
    go_enter Tryd.func27, Tryd.ntmps27
    go_wp2
    go_ret
    rw [HP.out]
    exact ⟨rfl, rfl, rfl⟩
  · have hf : d.down = false := by simpa using hd
    rw [hf] at c2
    by_cases h0 : i < 0
    · have HP : Hid (d.put i s = (40, d)) := Dk.put_range hf (by unfold Dk.has; simp; omega)
      clear hno
      go_enter Tryd.func27, Tryd.ntmps27
      go_wp2
      go_ret
      rw [HP.out]
      exact ⟨rfl, rfl, rfl⟩
    · obtain ⟨n, rfl⟩ : ∃ n : Nat, i = n := ⟨i.toNat, by omega⟩
      by_cases h1 : n < d.sure.length
      · have h1z : ¬ (d.sure.length : Int) ≤ (n : Int) := by omega
        have hs : s.size ≠ 256 := by
          rcases hno with h | h | h
          · exact absurd h hd
          · rw [Dk.has_nat h1] at h; cases h
          · exact h
        have HP : Hid (d.put n s = (1, d)) := Dk.put_arg hf (Dk.has_nat h1) hs
        have hs2 : ((s.size : Int) == 256) = false := beq_eq_false_iff_ne.2 (by omega)
        clear hno
        go_enter Tryd.func27, Tryd.ntmps27
        go_wp2
        go_ret
        rw [HP.out]
        exact ⟨rfl, rfl, rfl⟩
      · have h1z : (d.sure.length : Int) ≤ (n : Int) := by omega
        have HP : Hid (d.put n s = (40, d)) := Dk.put_range hf (by unfold Dk.has; simp; omega)
        clear hno
        go_enter Tryd.func27, Tryd.ntmps27
        go_wp2
        go_ret
        rw [HP.out]
        exact ⟨rfl, rfl, rfl⟩

end
end Go.Proofs.YtkbakmgjplhjiaaDoor

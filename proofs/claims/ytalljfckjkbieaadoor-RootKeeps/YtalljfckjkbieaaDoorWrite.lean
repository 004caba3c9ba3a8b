/-
  The walk of Write.
-/
import Derived.Test.YtalljfckjkbieaaDoorChg
import Derived.Maps.AppendAt
import Derived.Deep.RegionLaw
namespace Go.Proofs.YtalljfckjkbieaaDoor
open Go.RowKit
set_option linter.unusedVariables false
open Go.ChangeMaps (setBlock)
section
variable {w w' : World} {b m g : Nat} {pv : Value} {br : Bool} {lf : Int} {d : Dk}

theorem infoWrite : (Tryd.prog.info? 79).map (fun i => (i.zero, i.size, i.bytes)) = some (some (.agg #[.int .i64 0, .string ByteArray.empty]), 2, 24) := by kernel_rfl

/-- append of one write, as one step of a region that draws: the new row lies where the old one did, or is new. -/
theorem step_write {ops : Array Oper} {o : Oper} {a : Act} {w : World} {K : Act → World → Prop} {Q : Exit → Act → World → Prop} {E : Prop}
    (hg : o.guard = none) (s x : Operand) (hop : o.op = Op.call { callee := Callee.builtin Builtin.append, args := #[s, x], argTypes := #[62, 62] })
    (v : Value) (l : List Wr) (hs : a.eval s = v) (hown : w.ownsRow 0 79 2 v l.length (flatW l)) (r c : Nat) (hx : a.eval x = .slice (some ⟨r, 0, none⟩) 1 c) (p : Wr)
    (c0 : w.cell? ⟨r, 0, none⟩ = some (.int .i64 p.1)) (c1 : w.cell? ⟨r, 1, none⟩ = some (.string p.2)) (hl : l.length < 100000)
    (hK : ∀ ao n' c' w', w'.ownsRow 0 79 2 (.slice ao n' c') (l ++ [p]).length (flatW (l ++ [p])) → w.grownBy w' v.ownBlock → ((Value.slice ao n' c').ownBlock = v.ownBlock ∨ (Value.slice ao n' c').ownBlock = some w.heap.size) → K (a.put o.dst (.slice ao n' c')) w') :
    if Region.wanted o (yielded ops a.tmps) = true then Oper.wp Tryd.prog o a w K Q else E := by
  have hw : Region.wanted o (yielded ops a.tmps) = true := by simp [Region.wanted, hg]
  rw [if_pos hw]
  obtain ⟨i0, hi, hz0, hz1, hz2⟩ := info_parts infoWrite
  obtain ⟨v', w', hr, h2, h3, h4, h5⟩ := run_append_own_at (P := Tryd.prog) w 0 62 o.type 79 i0 _ 2 24 Tryd.underlying62 hi hz0 hz1 hz2 rfl (by decide) v l.length (flatW l) hown ⟨r, 0, none⟩ 1 c [.int .i64 p.1, .string p.2] rfl (fun j u hj => by
    match j, hj with
    | 0, hj => simp at hj; subst hj; exact c0
    | 1, hj => simp at hj; subst hj; exact c1
    | j + 2, hj => simp at hj) (fun u hu => by simp at hu; rcases hu with rfl | rfl <;> rfl) (by unfold maxLen; omega) (by omega) (Nat.zero_le _)
  unfold Oper.wp
  simp [execOp, hop, resolve, invoke, builtin, hs, hx, hr, Result.andThen]
  obtain ⟨ao, n', c', rfl⟩ : ∃ ao n c, v' = .slice ao n c := by
    rcases h2.2 with ⟨h, _⟩ | ⟨g, cap, cur, h, _⟩
    · exact ⟨_, _, _, h⟩
    · exact ⟨_, _, _, h⟩
  refine hK ao n' c' w' ?_ h3 h5
  rw [flatW_snoc]
  simpa using h2

abbrev bx (n : Nat) (s : ByteArray) : Obj := .cells #[.int .i64 n, .string s] 79

theorem write_mid {w2 : World} {v' : Value} (h : Mem w b m g pv br lf d) (n : Nat) (hn : n < d.sure.length) (s : ByteArray) (hs : s.size = 256) (hG : ((w.alloc (bx n s)).alloc (bx n s)).drew.grownBy w2 pv.ownBlock)
    (hO : w2.ownsRow 0 79 2 v' (d.pend ++ [(n, s)]).length (flatW (d.pend ++ [(n, s)]))) (hL : v'.ownBlock = pv.ownBlock ∨ v'.ownBlock = some (w.heap.size + 1 + 1)) :
    ∃ w4, (Instr.mapUpdate 61 (.map (some m)) (.int .i64 n) (.agg #[.int .i64 n, .string s])).run Tryd.prog (w2.setCell ⟨b, 1, none⟩ v').drew = .ok () w4 ∧
      Mem w4 b m g v' br lf { d with pend := d.pend ++ [(n, s)] } ∧ Turn (fun k => k = b ∨ k = m ∨ pv.ownBlock = some k) w w4 ∧
      (w2.setCell ⟨b, 1, none⟩ v').cell? ⟨b, 2, none⟩ = some (.map (some m)) ∧ (w2.setCell ⟨b, 1, none⟩ v').cell? ⟨w.heap.size, 0, none⟩ = some (.int .i64 n) ∧ (w2.setCell ⟨b, 1, none⟩ v').cell? ⟨w.heap.size, 1, none⟩ = some (.string s) := by
  have hsz : w.heap.size + 2 ≤ w2.heap.size := by have := hG.size; simpa using this
  have hW : ∀ k, k < w.heap.size → ((w.alloc (bx n s)).alloc (bx n s)).drew.heap[k]? = w.heap[k]? := fun k hk =>
    (Below.heap_alloc (w.alloc (bx n s)) _ k (by simp; omega)).trans (Below.heap_alloc w _ k hk)
  have hWn : ((w.alloc (bx n s)).alloc (bx n s)).drew.heap[w.heap.size]? = some (bx n s) := (Below.heap_alloc (w.alloc (bx n s)) _ _ (by simp)).trans (heap_alloc_new w _)
  have k2 : ∀ k, k < w.heap.size → pv.ownBlock ≠ some k → w2.heap[k]? = w.heap[k]? := fun k hk hp => (hG.block k (by simp; omega) (Ne.symm hp)).trans (hW k hk)
  have k2n : w2.heap[w.heap.size]? = some (bx n s) := (hG.block _ (by simp; omega) (fun e => by have := (h.pk e.symm).1; omega)).trans hWn
  have hb2 := k2 b h.bl h.pb
  have hg2 := k2 g h.gl h.pg
  have hm2 := k2 m h.map.lt h.pm
  have hvb : ∀ k, v'.ownBlock = some k → k ≠ b ∧ k ≠ g ∧ k ≠ m := fun k hk => by
    rcases hL with e | e
    · exact (h.pk (e ▸ hk)).2
    · rw [hk] at e
      have e2 : k = w.heap.size + 1 + 1 := Option.some.inj e
      have := h.bl; have := h.gl; have := h.map.lt
      omega
  obtain ⟨es, clock, hrun, hmap⟩ := h.map.put n (.agg #[.int .i64 n, .string s])
  have e3 : ∀ k, k ≠ b → (w2.setCell ⟨b, 1, none⟩ v').heap[k]? = w2.heap[k]? := fun k hk => Below.heap_setCell _ _ _ _ hk
  have hb3 : (w2.setCell ⟨b, 1, none⟩ v').heap[b]? = some (.cells #[.slice (some ⟨g, 0, none⟩) d.sure.length d.sure.length, v', .map (some m), .bool br, .int .i64 lf, .bool d.down, .int .i64 d.reads, .int .i64 d.writes] 69 (0, 0)) := by
    simp [World.setCell, Array.getElem?_modify, hb2, h.blk]
  refine ⟨_, hrun (w2.setCell ⟨b, 1, none⟩ v').drew ((e3 m h.bm.symm).trans hm2), ?_, ?_, ?_, ?_, ?_⟩
  · refine ⟨?_, ?_, ?_, ?_, h.enc, ⟨h.ok.len, h.ok.sz, fun p hp => ?_, h.ok.brk⟩, h.bg, h.bm, h.gm, fun e => (hvb _ e).1 rfl, fun e => (hvb _ e).2.1 rfl, fun e => (hvb _ e).2.2 rfl⟩
    · rw [setBlock_other _ h.bm]; exact hb3
    · rw [setBlock_other _ h.gm]; exact (e3 g h.bg.symm).trans (hg2.trans h.row)
    · exact ownsRow_kept' hO (fun k hk => by rw [setBlock_other _ (hvb k hk).2.2]; exact e3 k (hvb k hk).1)
    · have := hmap (setBlock (w2.setCell ⟨b, 1, none⟩ v').drew m (.map es clock)) (setBlock_same (by have := h.map.lt; simp [World.setCell]; omega) _)
      rw [mapOf_snoc] at this
      exact this
    · rcases List.mem_append.1 hp with h1 | h1
      · exact h.ok.pd p h1
      · simp only [List.mem_singleton] at h1
        subst h1
        exact ⟨hn, hs⟩
  · refine ⟨hG.os, hG.tape, hG.output, ?_, fun k hk hx => ?_⟩
    · simp [setBlock, World.setCell]; omega
    · rw [setBlock_other _ (fun e => hx (.inr (.inl e)))]
      exact (e3 k (fun e => hx (.inl e))).trans (k2 k hk (fun e => hx (.inr (.inr e))))
  · simp [World.cell?, hb3]
  · rw [World.cell?_of_block (a := ⟨w.heap.size, 0, none⟩) (e3 _ (by have := h.bl; show w.heap.size ≠ b; omega))]; simp [World.cell?, k2n]
  · rw [World.cell?_of_block (a := ⟨w.heap.size, 1, none⟩) (e3 _ (by have := h.bl; show w.heap.size ≠ b; omega))]; simp [World.cell?, k2n]

theorem tick_ret {d : Dk} (h : d.down = false) : d.tick.1 = if d.tick.2.down = true then 4 else 0 := by
  unfold Dk.tick; split <;> simp [h]

set_option maxHeartbeats 2000000 in
set_option maxRecDepth 100000 in
theorem write_ok (h : Mem w b m g pv br lf d) (n : Nat) (hn : n < d.sure.length) (s : ByteArray) (hs : s.size = 256) (hd : d.down = false) (hl : d.pend.length < 100000) :
    Calls Tryd.prog 50 #[ptr b, .int .i64 n, .string s] w fun e w' => e = .returned (.int .i64 (d.put n s).1) ∧ ∃ pv', Turn (fun k => k = b ∨ k = m ∨ pv.ownBlock = some k) w w' ∧ (∀ k, pv'.ownBlock = some k → pv.ownBlock = some k ∨ w.heap.size ≤ k) ∧ MemD w' b m g pv' (d.put n s).2 := by
  have H : Hid (Mem w b m g pv br lf d) := h
  have C1 : Hid (Calls Tryd.prog 61 #[ptr b] w fun e w' => e = .returned (.bool d.down) ∧ w = w') := down_m h
  have hi : d.has n = true := by unfold Dk.has; simp; omega
  have C2 : Hid (Calls Tryd.prog 62 #[ptr b, .int .i64 n] w fun e w' => e = .returned (.bool (d.has n)) ∧ w = w') := has_m h n
  have lt := h.bl; have c1 := h.c1; have f1 := h.fz 1
  have PN : Hid (w.ownsRow 0 79 2 pv d.pend.length (flatW d.pend)) := h.pnd
  have hW0 : ∀ k, k < w.heap.size → ((w.alloc (.cells #[.int .i64 n, .string s] 79)).alloc (.cells #[.int .i64 n, .string s] 79)).drew.heap[k]? = w.heap[k]? := fun k hk =>
    (Below.heap_alloc (w.alloc (.cells #[.int .i64 n, .string s] 79)) _ k (by simp; omega)).trans (Below.heap_alloc w _ k hk)
  have HW : Hid (∀ k, k < w.heap.size → ((w.alloc (.cells #[.int .i64 n, .string s] 79)).alloc (.cells #[.int .i64 n, .string s] 79)).drew.heap[k]? = w.heap[k]?) := hW0
  have HWn : Hid (((w.alloc (.cells #[.int .i64 n, .string s] 79)).alloc (.cells #[.int .i64 n, .string s] 79)).drew.heap[w.heap.size]? = some (.cells #[.int .i64 n, .string s] 79 (0, 0))) := by
    show ((w.alloc _).alloc _).heap[w.heap.size]? = _
    rw [Below.heap_alloc _ _ _ (by simp)]
    exact heap_alloc_new w _
  clear h hW0
  go_enter Tryd.func50, Tryd.ntmps50
  go_wp2_with fail
  refine Calls.mono C1.out ?_
  rintro e w1 ⟨rfl, rfl⟩
  go_wp2_with fail
  refine Calls.mono C2.out ?_
  rintro e w1 ⟨rfl, rfl⟩
  go_wp2
  go_region_law (refine step_write rfl _ _ rfl pv d.pend rfl (ownsRow_kept' PN.out (fun k hk => HW.out k (H.out.pk hk).1)) _ _ rfl ((n : Nat), s) ?k1 ?k2 hl ?_; (case k1 => simp); (case k2 => simp); intro ao n' c' w2 hown2 hgr2 hloc2; have hb2 : Hid (w2.heap[b]? = w.heap[b]?) := (hgr2.block b (by simp; omega) H.out.pb.symm).trans (HW.out b lt); have cb2 : w2.cell? ⟨b, 1, none⟩ = some pv := (World.cell?_of_block (a := ⟨b, 1, none⟩) hb2.out).trans c1; have fb2 : w2.frozen? ⟨b, 1, none⟩ = false := (World.frozen?_of_block (a := ⟨b, 1, none⟩) hb2.out).trans f1; have HO2 : Hid (w2.ownsRow 0 79 2 (.slice ao n' c') (d.pend ++ [(n, s)]).length (flatW (d.pend ++ [(n, s)]))) := hown2; have HL2 : Hid ((Value.slice ao n' c').ownBlock = pv.ownBlock ∨ (Value.slice ao n' c').ownBlock = some (w.heap.size + 1 + 1)) := (by show _ ∨ _; simpa using hloc2); have HG2 : Hid (((w.alloc (.cells #[.int .i64 n, .string s] 79)).alloc (.cells #[.int .i64 n, .string s] 79)).drew.grownBy w2 pv.ownBlock) := hgr2; clear hown2 hgr2 hloc2)
  all_goals
    obtain ⟨w4, hrun4, hM4, hT4, c2, l0, l1⟩ := write_mid H.out n hn s hs HG2.out HO2.out HL2.out
    obtain ⟨v', ev⟩ : ∃ v', v' = Value.slice ao n' c' := ⟨_, rfl⟩
    rw [← ev] at hrun4 hM4 c2 l0 l1
    have HL3 : Hid (v'.ownBlock = pv.ownBlock ∨ v'.ownBlock = some (w.heap.size + 1 + 1)) := by rw [ev]; exact HL2.out
    rw [← ev]
    obtain ⟨w3, e3⟩ : ∃ w3, w3 = w2.setCell ⟨b, 1, none⟩ v' := ⟨_, rfl⟩
    rw [← e3] at hrun4 c2 l0 l1
    rw [← e3]
    have M4 : Hid (Mem w4 b m g v' br lf { d with pend := d.pend ++ [(n, s)] }) := hM4
    have T4 : Hid (Turn (fun k => k = b ∨ k = m ∨ pv.ownBlock = some k) w w4) := hT4
    have C3 : Hid (Calls Tryd.prog 63 #[.pointer (some ⟨b, 7, none⟩), .int .i64 1] w4 fun e w' => e = .returned (.int .i64 (wrap64 (d.writes + 1))) ∧ w' = w4.setCell ⟨b, 7, none⟩ (.int .i64 (wrap64 (d.writes + 1)))) := add_m 7 _ _ hM4.c7 (hM4.fz 7)
    obtain ⟨w5, e5⟩ : ∃ w5, w5 = w4.setCell ⟨b, 7, none⟩ (.int .i64 (wrap64 (d.writes + 1))) := ⟨_, rfl⟩
    have M5 : Hid (Mem w5 b m g v' br lf { d with pend := d.pend ++ [(n, s)], writes := wrap64 (d.writes + 1) }) := by show Mem _ _ _ _ _ _ _ _; rw [e5]; exact hM4.set7 _
    have T5 : Hid (OnlyD b w4 w5) := by show OnlyD _ _ _; rw [e5]; exact OnlyD.setCell _ _ _ _
    rw [← e5] at C3
    have C4 : Hid (Calls Tryd.prog 64 #[ptr b] w5 fun e w' => e = .returned (.tuple #[]) ∧ OnlyD b w5 w' ∧ MemD w' b m g v' { d with pend := d.pend ++ [(n, s)], writes := wrap64 (d.writes + 1) : Dk }.tick.2) := countDown_m M5.out hd
    have HP : Hid (d.put n s = { d with pend := d.pend ++ [(n, s)], writes := wrap64 (d.writes + 1) : Dk }.tick) := by
      show d.put n s = _
      unfold Dk.put
      rw [if_neg (by simp [hd]), if_pos hi, if_pos hs]
      rfl
    have TR : Hid ({ d with pend := d.pend ++ [(n, s)], writes := wrap64 (d.writes + 1) : Dk }.tick.1 = if { d with pend := d.pend ++ [(n, s)], writes := wrap64 (d.writes + 1) : Dk }.tick.2.down = true then 4 else 0) := tick_ret hd
    have lt4 := hM4.bl; have lt5 := M5.out.bl; have c7 := hM4.c7
    clear hM4 hT4 e3 e5 ev HL2 HG2 HO2 cb2 fb2 hb2 c1 f1 HW HWn
    go_wp2
    go_region
    go_wp2_with fail
    refine Calls.mono C3.out ?_
    rintro e w6 ⟨rfl, rfl⟩
    go_wp2_with fail
    refine Calls.mono C4.out ?_
    rintro e w6 ⟨rfl, O6, br6, lf6, M6⟩
    have c5 := M6.c5; have lt6 := M6.bl
    have M6' : Hid (Mem w6 b m g v' br6 lf6 { d with pend := d.pend ++ [(n, s)], writes := wrap64 (d.writes + 1) : Dk }.tick.2) := M6
    clear M6
    obtain ⟨dd, ed⟩ : ∃ dd, dd = { d with pend := d.pend ++ [(n, s)], writes := wrap64 (d.writes + 1) : Dk }.tick := ⟨_, rfl⟩
    rw [← ed] at c5 M6' HP TR
    have fin : Turn (fun k => k = b ∨ k = m ∨ pv.ownBlock = some k) w w6 := (T4.out.trans (T5.out.turn (X := fun k => k = b) rfl) (fun k hk => .inl (.inl hk))).trans (O6.turn (X := fun k => k = b) rfl) (fun k hk => .inl (.inl hk))
    have FIN : Hid (Turn (fun k => k = b ∨ k = m ∨ pv.ownBlock = some k) w w6) := fin
    clear fin O6 ed
    cases hdn : dd.2.down with
    | true =>
      rw [hdn] at c5 TR
      go_wp2
      go_ret
      rw [HP.out]
      exact ⟨ret_intD TR.out.symm, v', FIN.out, fun k hk => HL3.out.elim (fun e => .inl (e ▸ hk)) (fun e => .inr (by rw [hk] at e; have := Option.some.inj e; omega)), br6, lf6, M6'.out⟩
    | false =>
      rw [hdn] at c5 TR
      go_wp2
      go_ret
      rw [HP.out]
      exact ⟨ret_intD TR.out.symm, v', FIN.out, fun k hk => HL3.out.elim (fun e => .inl (e ▸ hk)) (fun e => .inr (by rw [hk] at e; have := Option.some.inj e; omega)), br6, lf6, M6'.out⟩

set_option maxHeartbeats 1000000 in
theorem write_no (h : Mem w b m g pv br lf d) (i : Int) (s : ByteArray) (hno : d.down = true ∨ d.has i = false ∨ s.size ≠ 256) (hsz : s.size ≤ maxLen) :
    Calls Tryd.prog 50 #[ptr b, .int .i64 i, .string s] w fun e w' => e = .returned (.int .i64 (d.put i s).1) ∧ w = w' ∧ (d.put i s).2 = d := by
  have C1 : Hid (Calls Tryd.prog 61 #[ptr b] w fun e w' => e = .returned (.bool d.down) ∧ w = w') := down_m h
  have C2 : Hid (Calls Tryd.prog 62 #[ptr b, .int .i64 i] w fun e w' => e = .returned (.bool (d.has i)) ∧ w = w') := has_m h i
  have lt := h.bl
  clear h
  unfold maxLen at hsz
  by_cases hd : d.down = true
  · have HP : Hid (d.put i s = (4, d)) := by show d.put i s = _; unfold Dk.put; rw [if_pos hd]
    clear hno
    go_enter Tryd.func50, Tryd.ntmps50
    go_wp2_with fail
    refine Calls.mono C1.out ?_
    rintro e w1 ⟨rfl, rfl⟩
    go_wp2
    go_ret
    rw [HP.out]
    exact ⟨rfl, rfl, rfl⟩
  · have hf : d.down = false := by simpa using hd
    by_cases hi : d.has i = true
    · have hs : s.size ≠ 256 := by
        rcases hno with h | h | h
        · exact absurd h hd
        · rw [hi] at h; cases h
        · exact h
      have HP : Hid (d.put i s = (1, d)) := by show d.put i s = _; unfold Dk.put; rw [if_neg hd, if_pos hi, if_neg hs]
      have hs2 : ((s.size : Int) == 256) = false := beq_eq_false_iff_ne.2 (by omega)
      clear hno
      go_enter Tryd.func50, Tryd.ntmps50
      go_wp2_with fail
      refine Calls.mono C1.out ?_
      rintro e w1 ⟨rfl, rfl⟩
      go_wp2_with fail
      refine Calls.mono C2.out ?_
      rintro e w1 ⟨rfl, rfl⟩
      go_wp2
      go_ret
      rw [HP.out]
      exact ⟨rfl, rfl, rfl⟩
    · have hif : d.has i = false := by simpa using hi
      have HP : Hid (d.put i s = (40, d)) := by show d.put i s = _; unfold Dk.put; rw [if_neg hd, if_neg hi]
      clear hno
      go_enter Tryd.func50, Tryd.ntmps50
      go_wp2_with fail
      refine Calls.mono C1.out ?_
      rintro e w1 ⟨rfl, rfl⟩
      go_wp2_with fail
      refine Calls.mono C2.out ?_
      rintro e w1 ⟨rfl, rfl⟩
      go_wp2
      go_ret
      rw [HP.out]
      exact ⟨rfl, rfl, rfl⟩

end
end Go.Proofs.YtalljfckjkbieaaDoor

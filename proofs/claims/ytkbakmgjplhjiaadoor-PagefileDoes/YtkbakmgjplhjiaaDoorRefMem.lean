/-
  The reference's disk in memory, and its small functions: Zero, Now, Read, Stop.
-/
import Derived.Test.YtkbakmgjplhjiaaDoorUp2
import Derived.BigRegion
namespace Go.Proofs.YtkbakmgjplhjiaaDoor
open Go.RowKit
set_option linter.unusedVariables false

def Dk.brkI (d : Dk) : Int := match d.brk with | none => -1 | some k => k

structure RMem (w : World) (b : Nat) (sv wv : Value) (d : Dk) : Prop where
  blk : w.heap[b]? = some (.cells #[sv, wv, .bool d.down, .int .i64 d.brkI, .int .i64 d.reads, .int .i64 d.writes] 49 (0, 0))
  row : w.ownsRow 0 9 1 sv d.sure.length (d.sure.map Value.string)
  wt : w.ownsRow 0 81 2 wv d.pend.length (flatW d.pend)
  ok : d.Ok
  sb : sv.ownBlock ≠ some b
  wb : wv.ownBlock ≠ some b
  sw : ∀ k, sv.ownBlock = some k → wv.ownBlock ≠ some k

section
variable {w w' : World} {b : Nat} {sv wv : Value} {d : Dk}
theorem RMem.bl (h : RMem w b sv wv d) : b < w.heap.size := (Array.getElem?_eq_some_iff.1 h.blk).1
theorem RMem.c0 (h : RMem w b sv wv d) : w.cell? ⟨b, 0, none⟩ = some sv := by simp [World.cell?, h.blk]
theorem RMem.c1 (h : RMem w b sv wv d) : w.cell? ⟨b, 1, none⟩ = some wv := by simp [World.cell?, h.blk]
theorem RMem.c2 (h : RMem w b sv wv d) : w.cell? ⟨b, 2, none⟩ = some (.bool d.down) := by simp [World.cell?, h.blk]
theorem RMem.c3 (h : RMem w b sv wv d) : w.cell? ⟨b, 3, none⟩ = some (.int .i64 d.brkI) := by simp [World.cell?, h.blk]
theorem RMem.c4 (h : RMem w b sv wv d) : w.cell? ⟨b, 4, none⟩ = some (.int .i64 d.reads) := by simp [World.cell?, h.blk]
theorem RMem.c5 (h : RMem w b sv wv d) : w.cell? ⟨b, 5, none⟩ = some (.int .i64 d.writes) := by simp [World.cell?, h.blk]
theorem RMem.fz (h : RMem w b sv wv d) (o : Nat) : w.frozen? ⟨b, o, none⟩ = false := by simp [World.frozen?, h.blk]
theorem RMem.sv_slice (h : RMem w b sv wv d) : ∃ ao c, sv = .slice ao d.sure.length c := by
  rcases h.row.2 with ⟨h1, h2⟩ | ⟨x, cap, cur, h1, _⟩
  · exact ⟨_, _, by rw [h1, h2]⟩
  · exact ⟨_, _, h1⟩
theorem RMem.wv_slice (h : RMem w b sv wv d) : ∃ ao c, wv = .slice ao d.pend.length c := by
  rcases h.wt.2 with ⟨h1, h2⟩ | ⟨x, cap, cur, h1, _⟩
  · exact ⟨_, _, by rw [h1, h2]⟩
  · exact ⟨_, _, h1⟩
theorem RMem.scell (h : RMem w b sv wv d) {i : Nat} (hi : i < d.sure.length) : ∃ r c, sv = .slice (some ⟨r, 0, none⟩) d.sure.length c ∧ w.cell? ⟨r, i, none⟩ = some (.string (sAt d.sure i)) ∧ w.frozen? ⟨r, i, none⟩ = false ∧ r < w.heap.size := by
  have hr := h.row
  rcases hr.2 with ⟨_, h2⟩ | ⟨g, cap, cur, h1, _, hg, _⟩
  · omega
  · rw [h1] at hr
    refine ⟨g, cap, h1, ?_, hr.frozenAt i, (Array.getElem?_eq_some_iff.1 hg).1⟩
    rw [hr.cellAt i (by omega)]
    simp [sAt, List.getD_eq_getElem?_getD, hi]
theorem RMem.wcell (h : RMem w b sv wv d) {k : Nat} (hk : k < d.pend.length) : ∃ r c, wv = .slice (some ⟨r, 0, none⟩) d.pend.length c ∧ w.cell? ⟨r, k * 2, none⟩ = some (.int .i64 (wAt d.pend k).1) ∧ w.cell? ⟨r, k * 2 + 1, none⟩ = some (.string (wAt d.pend k).2) ∧ r < w.heap.size := by
  have hr := h.wt
  rcases hr.2 with ⟨_, h2⟩ | ⟨g, cap, cur, h1, _, hg, _⟩
  · omega
  · rw [h1] at hr
    refine ⟨g, cap, h1, ?_, ?_, (Array.getElem?_eq_some_iff.1 hg).1⟩
    · rw [hr.cellAt (k * 2) (by omega)]; exact (flatW_get d.pend k hk).1
    · rw [hr.cellAt (k * 2 + 1) (by omega)]; exact (flatW_get d.pend k hk).2
theorem RMem.kept (h : RMem w b sv wv d) (hb : w'.heap[b]? = w.heap[b]?) (hs : ∀ k, sv.ownBlock = some k → w'.heap[k]? = w.heap[k]?) (hw : ∀ k, wv.ownBlock = some k → w'.heap[k]? = w.heap[k]?) : RMem w' b sv wv d :=
  ⟨hb.trans h.blk, ownsRow_kept' h.row hs, ownsRow_kept' h.wt hw, h.ok, h.sb, h.wb, h.sw⟩
/-- The disk's own block has turned. -/
theorem RMem.upd (h : RMem w b sv wv d) (o : OnlyD b w w') {d' : Dk} (hs : d'.sure = d.sure) (hp : d'.pend = d.pend)
    (hb : w'.heap[b]? = some (.cells #[sv, wv, .bool d'.down, .int .i64 d'.brkI, .int .i64 d'.reads, .int .i64 d'.writes] 49 (0, 0))) (ok : d'.Ok) : RMem w' b sv wv d' :=
  ⟨hb, by rw [hs]; exact ownsRow_kept' h.row (fun k hk => o.block k (fun e => h.sb (by rw [hk, e]))), by rw [hp]; exact ownsRow_kept' h.wt (fun k hk => o.block k (fun e => h.wb (by rw [hk, e]))), ok, h.sb, h.wb, h.sw⟩
theorem RMem.alloc (h : RMem w b sv wv d) (o : Obj) : RMem (w.alloc o) b sv wv d :=
  h.kept (Below.heap_alloc _ _ _ h.bl) (fun k hk => Below.heap_alloc _ _ _ (h.row.lt k hk).2) (fun k hk => Below.heap_alloc _ _ _ (h.wt.lt k hk).2)
theorem RMem.drew (h : RMem w b sv wv d) : RMem w.drew b sv wv d := h.kept rfl (fun _ _ => rfl) (fun _ _ => rfl)
/-- A store into what is sure. -/
theorem RMem.setS {r c : Nat} (h : RMem w b (.slice (some ⟨r, 0, none⟩) d.sure.length c) wv d) (i : Nat) (_hi : i < d.sure.length) (s : ByteArray) (hs : s.size = 256) : RMem (w.setCell ⟨r, i, none⟩ (.string s)) b (.slice (some ⟨r, 0, none⟩) d.sure.length c) wv { d with sure := d.sure.set i s } := by
  have k : ∀ j, j ≠ r → (w.setCell ⟨r, i, none⟩ (.string s)).heap[j]? = w.heap[j]? := fun j hj => Below.heap_setCell _ _ _ _ hj
  refine ⟨?_, ?_, ownsRow_kept' h.wt (fun j hj => k j (fun e => h.sw r rfl (by rw [hj, e]))), ⟨?_, set_sizes h.ok.sz hs, ?_, h.ok.brk⟩, h.sb, h.wb, h.sw⟩
  · rw [k b (fun e => h.sb (by rw [e]; rfl)), h.blk]; rfl
  · have := (h.row.stored i (.string s)).1
    simpa [List.map_set] using this
  · simpa using h.ok.len
  · intro p hp; simpa using h.ok.pd p hp

set_option maxHeartbeats 1000000 in
set_option maxRecDepth 100000 in
theorem zero_c (w : World) : Calls Tryd.prog 31 #[] w fun e w' => e = .returned (.string zeroS) ∧ w = w' := by
  obtain ⟨t1, ht1⟩ : ∃ t1, t1 = (⟨#[0]⟩ : ByteArray) := ⟨_, rfl⟩
  go_enter Tryd.func31, Tryd.ntmps31
  go_wp2
  go_loopg [1] 8 (fun gk s1 wr => ∃ (e : Nat) (t : ByteArray), s1 = .string t ∧ t.size = 2 ^ e ∧ e ≤ 8 ∧ 8 - e ≤ gk ∧ Hid (t = repS (2 ^ e) 0) ∧ wr = w)
  case atStart => exact ⟨0, ⟨#[0]⟩, rfl, rfl, by omega, by omega, rfl, rfl⟩
  case round =>
    obtain ⟨e, t, rfl, hsz, he, hge, HT, rfl⟩ := hrel
    by_cases h8 : e < 8
    · have hp : 2 ^ e ≤ 2 ^ 7 := Nat.pow_le_pow_right (by decide) (by omega)
      have hlt : (t.size : Int) < 256 := by omega
      have HS : Hid (t.size = 2 ^ e) := hsz
      clear hsz
      go_wp2
      go_roundg (8 - (e + 1))
      case measure => omega
      case rel =>
        refine ⟨e + 1, t ++ t, rfl, ?_, by omega, Nat.le_refl _, ?_, rfl⟩
        · rw [ByteArray.size_append, HS.out, Nat.pow_succ]; omega
        · show _ = _
          rw [HT.out, repS_append, Nat.pow_succ]; congr 1; omega
    · obtain rfl : e = 8 := by omega
      have hlt : ¬ (t.size : Int) < 256 := by omega
      clear hsz
      go_wp2
      go_ret
      exact ⟨ret_str (by rw [HT.out]; rfl), rfl⟩

set_option maxHeartbeats 2000000 in
set_option maxRecDepth 100000 in
theorem now_r (h : RMem w b sv wv d) (i : Nat) (hi : i < d.sure.length) (hl : d.pend.length < 100000) : Calls Tryd.prog 55 #[ptr b, .int .i64 i] w fun e w' => e = .returned (.string (d.now i)) ∧ w = w' := by
  obtain ⟨r, c, rfl, cs, _, hr⟩ := h.scell hi
  obtain ⟨aw, cw, ew⟩ := h.wv_slice
  have H : Hid (RMem w b (.slice (some ⟨r, 0, none⟩) d.sure.length c) wv d) := h
  have EW : Hid (wv = .slice aw d.pend.length cw) := ew
  have c0 := h.c0; have c1 := h.c1; have lt := h.bl; have hsl := h.ok.len
  rw [ew] at c1
  have hiz : (i : Int) < (d.sure.length : Int) := by omega
  clear h ew
  go_enter Tryd.func55, Tryd.ntmps55
  go_wp2
  go_loopg [5, 6] d.pend.length (fun gk s5 s6 wr => ∃ (k : Nat) (x : ByteArray), s5 = .string x ∧ s6 = .int .i64 k ∧ k ≤ d.pend.length ∧ d.pend.length - k ≤ gk ∧ Hid (x = nowTo d.sure d.pend i k) ∧ wr = w)
  case atStart => exact ⟨0, _, rfl, rfl, Nat.zero_le _, Nat.le_refl _, rfl, rfl⟩
  case round =>
    obtain ⟨k, x, rfl, rfl, hk, hgk, HX, rfl⟩ := hrel
    by_cases hkl : k < d.pend.length
    · have hkz : (k : Int) < (d.pend.length : Int) := by omega
      obtain ⟨q, c', e1, x0, x1, hq⟩ := H.out.wcell hkl
      obtain ⟨rfl, rfl⟩ : aw = some ⟨q, 0, none⟩ ∧ cw = c' := by have e2 := EW.out.symm.trans e1; simp at e2; exact e2
      have NS : Hid (nowTo d.sure d.pend i (k + 1) = if (wAt d.pend k).1 = i then (wAt d.pend k).2 else nowTo d.sure d.pend i k) := nowTo_succ _ _ _ _
      generalize wAt d.pend k = p at *
      obtain ⟨pi, ps⟩ := p
      simp only at x0 x1 NS
      clear e1
      by_cases hpi : pi = i
      · subst hpi
        have N2 : Hid (ps = nowTo d.sure d.pend pi (k + 1)) := by show _ = _; rw [NS.out, if_pos rfl]
        clear NS HX
        go_wp2
        go_roundg (d.pend.length - (k + 1))
        case measure => omega
        case rel => exact ⟨k + 1, ps, rfl, by go_num, by omega, Nat.le_refl _, N2, rfl⟩
      · have hpz : ((pi : Int) == (i : Int)) = false := beq_eq_false_iff_ne.2 (by omega)
        have N2 : Hid (x = nowTo d.sure d.pend i (k + 1)) := by show _ = _; rw [NS.out, if_neg hpi]; exact HX.out
        clear NS HX
        go_wp2
        go_roundg (d.pend.length - (k + 1))
        case measure => omega
        case rel => exact ⟨k + 1, x, rfl, by go_num, by omega, Nat.le_refl _, N2, rfl⟩
    · have hkz : ¬ (k : Int) < (d.pend.length : Int) := by omega
      obtain rfl : k = d.pend.length := by omega
      go_wp2
      go_ret
      exact ⟨ret_str HX.out, rfl⟩

set_option maxHeartbeats 1000000 in
theorem read_r (h : RMem w b sv wv d) (i : Int) (hl : d.pend.length < 100000) : Calls Tryd.prog 35 #[ptr b, .int .i64 i] w fun e w' => e = .returned (.tuple #[.string (d.get i).1.1, .int .i64 (d.get i).1.2]) ∧ OnlyD b w w' ∧ RMem w' b sv wv (d.get i).2 := by
  have H : Hid (RMem w b sv wv d) := h
  have c0 := h.c0; have c2 := h.c2; have c4 := h.c4; have f4 := h.fz 4; have lt := h.bl; have hsl := h.ok.len
  obtain ⟨asv, csv, es⟩ := h.sv_slice
  rw [es] at c0
  by_cases hd : d.down = true
  · have HG : Hid (d.get i = ((ByteArray.empty, 4), d)) := Dk.get_down hd
    rw [hd] at c2
    clear h es
    go_enter Tryd.func35, Tryd.ntmps35
    go_wp2
    go_ret2
    rw [HG.out]
    exact ⟨rfl, OnlyD.refl _ _, H.out⟩
  · have hf : d.down = false := by simpa using hd
    rw [hf] at c2
    by_cases h0 : i < 0
    · have HG : Hid (d.get i = ((ByteArray.empty, 40), d)) := by show d.get i = _; unfold Dk.get; rw [if_neg hd, if_neg (by unfold Dk.has; simp; omega)]
      clear h es
      go_enter Tryd.func35, Tryd.ntmps35
      go_wp2
      go_ret2
      rw [HG.out]
      exact ⟨rfl, OnlyD.refl _ _, H.out⟩
    · obtain ⟨n, rfl⟩ : ∃ n : Nat, i = n := ⟨i.toNat, by omega⟩
      by_cases h1 : n < d.sure.length
      · have h1z : ¬ (d.sure.length : Int) ≤ (n : Int) := by omega
        have h1y : (n : Int) < (d.sure.length : Int) := by omega
        have HG : Hid (d.get n = ((d.now n, 0), { d with reads := wrap64 (d.reads + 1) })) := Dk.get_ok hf (Dk.has_nat h1)
        obtain ⟨w2, e2⟩ : ∃ w2, w2 = w.setCell ⟨b, 4, none⟩ (.int .i64 (wrap64 (d.reads + 1))) := ⟨_, rfl⟩
        have h2 : RMem w2 b sv wv { d with reads := wrap64 (d.reads + 1) } := by
          rw [e2]
          exact h.upd (OnlyD.setCell b 4 w _) rfl rfl (by simp [World.setCell, Array.getElem?_modify, h.blk]; rfl) ⟨h.ok.len, h.ok.sz, h.ok.pd, h.ok.brk⟩
        have H2 : Hid (RMem w2 b sv wv { d with reads := wrap64 (d.reads + 1) }) := h2
        have O2 : Hid (OnlyD b w w2) := by show OnlyD _ _ _; rw [e2]; exact OnlyD.setCell _ _ _ _
        have CN : Hid (Calls Tryd.prog 55 #[ptr b, .int .i64 n] w2 fun e w' => e = .returned (.string (d.now n)) ∧ w2 = w') := now_r h2 n h1 hl
        clear h es h2
        go_enter Tryd.func35, Tryd.ntmps35
        go_wp2_with fail
        rw [← e2]
        clear e2
        refine Calls.mono CN.out ?_
        rintro e w3 ⟨rfl, rfl⟩
        go_wp2
        go_ret2
        rw [HG.out]
        exact ⟨rfl, O2.out, H2.out⟩
      · have h1z : (d.sure.length : Int) ≤ (n : Int) := by omega
        have HG : Hid (d.get n = ((ByteArray.empty, 40), d)) := by show d.get n = _; unfold Dk.get; rw [if_neg hd, if_neg (by unfold Dk.has; simp; omega)]
        clear h es
        go_enter Tryd.func35, Tryd.ntmps35
        go_wp2
        go_ret2
        rw [HG.out]
        exact ⟨rfl, OnlyD.refl _ _, H.out⟩

set_option maxHeartbeats 400000 in
theorem stop_r (h : RMem w b sv wv d) (n : Int) (hn : n ≤ 9223372036854775807) : Calls Tryd.prog 23 #[ptr b, .int .i64 n] w fun e w' => e = .returned (.tuple #[]) ∧ OnlyD b w w' ∧ RMem w' b sv wv (d.stop n) := by
  have H : Hid (RMem w b sv wv d) := h
  have c3 := h.c3; have f3 := h.fz 3; have lt := h.bl
  have HB : Hid ((d.stop n).brkI = max n (-1)) := by
    show _ = _
    unfold Dk.stop Dk.brkI
    by_cases h0 : n < 0
    · simp only [if_pos h0]; omega
    · simp only [if_neg h0]; omega
  have O : Hid ((d.stop n).Ok) := h.ok.stop hn
  clear h
  go_enter Tryd.func23, Tryd.ntmps23
  go_wp2
  go_end0
  refine ⟨rfl, OnlyD.setCell b 3 w _, ?_⟩
  refine H.out.upd (OnlyD.setCell b 3 w _) rfl rfl ?_ O.out
  rw [HB.out]
  simp [World.setCell, Array.getElem?_modify, H.out.blk, Dk.stop]

end
end Go.Proofs.YtkbakmgjplhjiaaDoor

/-
  Texts of elder layers, joined: RefMem, RefPut, RefSync, RefNew, RefCrash, RefApi, PfRef.
-/
import Derived.Test.YtnngfkjbbedkpaaGreatDoorBDisk
import Derived.BigRegion
import Derived.Deep.RegionLaw
import Derived.Test.YtnngfkjbbedkpaaGreatDoorBFile
import Derived.Test.YtnngfkjbbedkpaaGreatDoorBCode
namespace Go.Proofs.YtnngfkjbbedkpaaGreatDoor

/-! RefMem -/
section
open Go.RowKit
set_option linter.unusedVariables false

def Dk.brkI (d : Dk) : Int := match d.brk with | none => -1 | some k => k

structure RMem (w : World) (b : Nat) (sv wv : Value) (d : Dk) : Prop where
  blk : w.heap[b]? = some (.cells #[sv, wv, .bool d.down, .int .i64 d.brkI, .int .i64 d.reads, .int .i64 d.writes] 60 (0, 0))
  row : w.ownsRow 0 9 1 sv d.sure.length (d.sure.map Value.string)
  wt : w.ownsRow 0 129 2 wv d.pend.length (flatW d.pend)
  ok : d.Ok
  sb : sv.ownBlock ≠ some b
  wb : wv.ownBlock ≠ some b
  sw : ∀ k, sv.ownBlock = some k → wv.ownBlock ≠ some k

section
variable {w w' : World} {b : Nat} {sv wv : Value} {d : Dk}
theorem RMem.bl (h : RMem w b sv wv d) : b < w.heap.size := (Array.getElem?_eq_some_iff.1 h.blk).1
theorem RMem.c0 (h : RMem w b sv wv d) : w.cell? ⟨b, 0, none⟩ = some sv := by simp [World.cell?, h.blk]
theorem RMem.c1 (h : RMem w b sv wv d) : w.cell? ⟨b, 1, none⟩ = some wv := by simp [World.cell?, h.blk]
theorem RMem.c2 (h : RMem w b sv wv d) : w.cell? ⟨b, 2, none⟩ = some (.bool d.down) := by simp [World.cell?, h.blk]
theorem RMem.c3 (h : RMem w b sv wv d) : w.cell? ⟨b, 3, none⟩ = some (.int .i64 d.brkI) := by simp [World.cell?, h.blk]
theorem RMem.c4 (h : RMem w b sv wv d) : w.cell? ⟨b, 4, none⟩ = some (.int .i64 d.reads) := by simp [World.cell?, h.blk]
theorem RMem.c5 (h : RMem w b sv wv d) : w.cell? ⟨b, 5, none⟩ = some (.int .i64 d.writes) := by simp [World.cell?, h.blk]
theorem RMem.fz (h : RMem w b sv wv d) (o : Nat) : w.frozen? ⟨b, o, none⟩ = false := by simp [World.frozen?, h.blk]
theorem RMem.sv_slice (h : RMem w b sv wv d) : ∃ ao c, sv = .slice ao d.sure.length c := by
  rcases h.row.2 with ⟨h1, h2⟩ | ⟨x, cap, cur, h1, _⟩
  · exact ⟨_, _, by rw [h1, h2]⟩
  · exact ⟨_, _, h1⟩
theorem RMem.wv_slice (h : RMem w b sv wv d) : ∃ ao c, wv = .slice ao d.pend.length c := by
  rcases h.wt.2 with ⟨h1, h2⟩ | ⟨x, cap, cur, h1, _⟩
  · exact ⟨_, _, by rw [h1, h2]⟩
  · exact ⟨_, _, h1⟩
theorem RMem.scell (h : RMem w b sv wv d) {i : Nat} (hi : i < d.sure.length) : ∃ r c, sv = .slice (some ⟨r, 0, none⟩) d.sure.length c ∧ w.cell? ⟨r, i, none⟩ = some (.string (sAt d.sure i)) ∧ w.frozen? ⟨r, i, none⟩ = false ∧ r < w.heap.size := by
  have hr := h.row
  rcases hr.2 with ⟨_, h2⟩ | ⟨g, cap, cur, h1, _, hg, _⟩
  · omega
  · rw [h1] at hr
    refine ⟨g, cap, h1, ?_, hr.frozenAt i, (Array.getElem?_eq_some_iff.1 hg).1⟩
    rw [hr.cellAt i (by omega)]
    simp [sAt, List.getD_eq_getElem?_getD, hi]
theorem RMem.wcell (h : RMem w b sv wv d) {k : Nat} (hk : k < d.pend.length) : ∃ r c, wv = .slice (some ⟨r, 0, none⟩) d.pend.length c ∧ w.cell? ⟨r, k * 2, none⟩ = some (.int .i64 (wAt d.pend k).1) ∧ w.cell? ⟨r, k * 2 + 1, none⟩ = some (.string (wAt d.pend k).2) ∧ r < w.heap.size := by
  have hr := h.wt
  rcases hr.2 with ⟨_, h2⟩ | ⟨g, cap, cur, h1, _, hg, _⟩
  · omega
  · rw [h1] at hr
    refine ⟨g, cap, h1, ?_, ?_, (Array.getElem?_eq_some_iff.1 hg).1⟩
    · rw [hr.cellAt (k * 2) (by omega)]; exact (flatW_get d.pend k hk).1
    · rw [hr.cellAt (k * 2 + 1) (by omega)]; exact (flatW_get d.pend k hk).2
theorem RMem.kept (h : RMem w b sv wv d) (hb : w'.heap[b]? = w.heap[b]?) (hs : ∀ k, sv.ownBlock = some k → w'.heap[k]? = w.heap[k]?) (hw : ∀ k, wv.ownBlock = some k → w'.heap[k]? = w.heap[k]?) : RMem w' b sv wv d :=
  ⟨hb.trans h.blk, ownsRow_kept' h.row hs, ownsRow_kept' h.wt hw, h.ok, h.sb, h.wb, h.sw⟩
/-- The disk's own block has turned. -/
theorem RMem.upd (h : RMem w b sv wv d) (o : OnlyD b w w') {d' : Dk} (hs : d'.sure = d.sure) (hp : d'.pend = d.pend)
    (hb : w'.heap[b]? = some (.cells #[sv, wv, .bool d'.down, .int .i64 d'.brkI, .int .i64 d'.reads, .int .i64 d'.writes] 60 (0, 0))) (ok : d'.Ok) : RMem w' b sv wv d' :=
  ⟨hb, by rw [hs]; exact ownsRow_kept' h.row (fun k hk => o.block k (fun e => h.sb (by rw [hk, e]))), by rw [hp]; exact ownsRow_kept' h.wt (fun k hk => o.block k (fun e => h.wb (by rw [hk, e]))), ok, h.sb, h.wb, h.sw⟩
theorem RMem.alloc (h : RMem w b sv wv d) (o : Obj) : RMem (w.alloc o) b sv wv d :=
  h.kept (Below.heap_alloc _ _ _ h.bl) (fun k hk => Below.heap_alloc _ _ _ (h.row.lt k hk).2) (fun k hk => Below.heap_alloc _ _ _ (h.wt.lt k hk).2)
theorem RMem.drew (h : RMem w b sv wv d) : RMem w.drew b sv wv d := h.kept rfl (fun _ _ => rfl) (fun _ _ => rfl)
/-- A store into what is sure. -/
theorem RMem.setS {r c : Nat} (h : RMem w b (.slice (some ⟨r, 0, none⟩) d.sure.length c) wv d) (i : Nat) (_hi : i < d.sure.length) (s : ByteArray) (hs : s.size = 256) : RMem (w.setCell ⟨r, i, none⟩ (.string s)) b (.slice (some ⟨r, 0, none⟩) d.sure.length c) wv { d with sure := d.sure.set i s } := by
  have k : ∀ j, j ≠ r → (w.setCell ⟨r, i, none⟩ (.string s)).heap[j]? = w.heap[j]? := fun j hj => Below.heap_setCell _ _ _ _ hj
  refine ⟨?_, ?_, ownsRow_kept' h.wt (fun j hj => k j (fun e => h.sw r rfl (by rw [hj, e]))), ⟨?_, set_sizes h.ok.sz hs, ?_, h.ok.brk⟩, h.sb, h.wb, h.sw⟩
  · rw [k b (fun e => h.sb (by rw [e]; rfl)), h.blk]; rfl
  · have := (h.row.stored i (.string s)).1
    simpa [List.map_set] using this
  · simpa using h.ok.len
  · intro p hp; simpa using h.ok.pd p hp

set_option maxHeartbeats 1000000 in
set_option maxRecDepth 100000 in
theorem zero_c (w : World) : Calls Tryz.prog 39 #[] w fun e w' => e = .returned (.string zeroS) ∧ w = w' := by
  obtain ⟨t1, ht1⟩ : ∃ t1, t1 = (⟨#[0]⟩ : ByteArray) := ⟨_, rfl⟩
  go_enter Tryz.func39, Tryz.ntmps39
  go_wp2
  go_loopg [1] 8 (fun gk s1 wr => ∃ (e : Nat) (t : ByteArray), s1 = .string t ∧ t.size = 2 ^ e ∧ e ≤ 8 ∧ 8 - e ≤ gk ∧ Hid (t = repS (2 ^ e) 0) ∧ wr = w)
  case atStart => exact ⟨0, ⟨#[0]⟩, rfl, rfl, by omega, by omega, rfl, rfl⟩
  case round =>
    obtain ⟨e, t, rfl, hsz, he, hge, HT, rfl⟩ := hrel
    by_cases h8 : e < 8
    · have hp : 2 ^ e ≤ 2 ^ 7 := Nat.pow_le_pow_right (by decide) (by omega)
      have hlt : (t.size : Int) < 256 := by omega
      have HS : Hid (t.size = 2 ^ e) := hsz
      clear hsz
      go_wp2
      go_roundg (8 - (e + 1))
      case measure => omega
      case rel =>
        refine ⟨e + 1, t ++ t, rfl, ?_, by omega, Nat.le_refl _, ?_, rfl⟩
        · rw [ByteArray.size_append, HS.out, Nat.pow_succ]; omega
        · show _ = _
          rw [HT.out, repS_append, Nat.pow_succ]; congr 1; omega
    · obtain rfl : e = 8 := by omega
      have hlt : ¬ (t.size : Int) < 256 := by omega
      clear hsz
      go_wp2
      go_ret
      exact ⟨ret_str (by rw [HT.out]; rfl), rfl⟩

set_option maxHeartbeats 2000000 in
set_option maxRecDepth 100000 in
theorem now_r (h : RMem w b sv wv d) (i : Nat) (hi : i < d.sure.length) (hl : d.pend.length < 100000) : Calls Tryz.prog 103 #[ptr b, .int .i64 i] w fun e w' => e = .returned (.string (d.now i)) ∧ w = w' := by
  obtain ⟨r, c, rfl, cs, _, hr⟩ := h.scell hi
  obtain ⟨aw, cw, ew⟩ := h.wv_slice
  have H : Hid (RMem w b (.slice (some ⟨r, 0, none⟩) d.sure.length c) wv d) := h
  have EW : Hid (wv = .slice aw d.pend.length cw) := ew
  have c0 := h.c0; have c1 := h.c1; have lt := h.bl; have hsl := h.ok.len
  rw [ew] at c1
  have hiz : (i : Int) < (d.sure.length : Int) := by omega
  clear h ew
  go_enter Tryz.func103, Tryz.ntmps103
  go_wp2
  go_loopg [5, 6] d.pend.length (fun gk s5 s6 wr => ∃ (k : Nat) (x : ByteArray), s5 = .string x ∧ s6 = .int .i64 k ∧ k ≤ d.pend.length ∧ d.pend.length - k ≤ gk ∧ Hid (x = nowTo d.sure d.pend i k) ∧ wr = w)
  case atStart => exact ⟨0, _, rfl, rfl, Nat.zero_le _, Nat.le_refl _, rfl, rfl⟩
  case round =>
    obtain ⟨k, x, rfl, rfl, hk, hgk, HX, rfl⟩ := hrel
    by_cases hkl : k < d.pend.length
    · have hkz : (k : Int) < (d.pend.length : Int) := by omega
      obtain ⟨q, c', e1, x0, x1, hq⟩ := H.out.wcell hkl
      obtain ⟨rfl, rfl⟩ : aw = some ⟨q, 0, none⟩ ∧ cw = c' := by have e2 := EW.out.symm.trans e1; simp at e2; exact e2
      have NS : Hid (nowTo d.sure d.pend i (k + 1) = if (wAt d.pend k).1 = i then (wAt d.pend k).2 else nowTo d.sure d.pend i k) := nowTo_succ _ _ _ _
      generalize wAt d.pend k = p at *
      obtain ⟨pi, ps⟩ := p
      simp only at x0 x1 NS
      clear e1
      by_cases hpi : pi = i
      · subst hpi
        have N2 : Hid (ps = nowTo d.sure d.pend pi (k + 1)) := by show _ = _; rw [NS.out, if_pos rfl]
        clear NS HX
        go_wp2
        go_roundg (d.pend.length - (k + 1))
        case measure => omega
        case rel => exact ⟨k + 1, ps, rfl, by go_num, by omega, Nat.le_refl _, N2, rfl⟩
      · have hpz : ((pi : Int) == (i : Int)) = false := beq_eq_false_iff_ne.2 (by omega)
        have N2 : Hid (x = nowTo d.sure d.pend i (k + 1)) := by show _ = _; rw [NS.out, if_neg hpi]; exact HX.out
        clear NS HX
        go_wp2
        go_roundg (d.pend.length - (k + 1))
        case measure => omega
        case rel => exact ⟨k + 1, x, rfl, by go_num, by omega, Nat.le_refl _, N2, rfl⟩
    · have hkz : ¬ (k : Int) < (d.pend.length : Int) := by omega
      obtain rfl : k = d.pend.length := by omega
      go_wp2
      go_ret
      exact ⟨ret_str HX.out, rfl⟩

set_option maxHeartbeats 1000000 in
theorem read_r (h : RMem w b sv wv d) (i : Int) (hl : d.pend.length < 100000) : Calls Tryz.prog 77 #[ptr b, .int .i64 i] w fun e w' => e = .returned (.tuple #[.string (d.get i).1.1, .int .i64 (d.get i).1.2]) ∧ OnlyD b w w' ∧ RMem w' b sv wv (d.get i).2 := by
  have H : Hid (RMem w b sv wv d) := h
  have c0 := h.c0; have c2 := h.c2; have c4 := h.c4; have f4 := h.fz 4; have lt := h.bl; have hsl := h.ok.len
  obtain ⟨asv, csv, es⟩ := h.sv_slice
  rw [es] at c0
  by_cases hd : d.down = true
  · have HG : Hid (d.get i = ((ByteArray.empty, 4), d)) := Dk.get_down hd
    rw [hd] at c2
    clear h es
    go_enter Tryz.func77, Tryz.ntmps77
    go_wp2
    go_ret2
    rw [HG.out]
    exact ⟨rfl, OnlyD.refl _ _, H.out⟩
  · have hf : d.down = false := by simpa using hd
    rw [hf] at c2
    by_cases h0 : i < 0
    · have HG : Hid (d.get i = ((ByteArray.empty, 40), d)) := by show d.get i = _; unfold Dk.get; rw [if_neg hd, if_neg (by unfold Dk.has; simp; omega)]
      clear h es
      go_enter Tryz.func77, Tryz.ntmps77
      go_wp2
      go_ret2
      rw [HG.out]
      exact ⟨rfl, OnlyD.refl _ _, H.out⟩
    · obtain ⟨n, rfl⟩ : ∃ n : Nat, i = n := ⟨i.toNat, by omega⟩
      by_cases h1 : n < d.sure.length
      · have h1z : ¬ (d.sure.length : Int) ≤ (n : Int) := by omega
        have h1y : (n : Int) < (d.sure.length : Int) := by omega
        have HG : Hid (d.get n = ((d.now n, 0), { d with reads := wrap64 (d.reads + 1) })) := Dk.get_ok hf (Dk.has_nat h1)
        obtain ⟨w2, e2⟩ : ∃ w2, w2 = w.setCell ⟨b, 4, none⟩ (.int .i64 (wrap64 (d.reads + 1))) := ⟨_, rfl⟩
        have h2 : RMem w2 b sv wv { d with reads := wrap64 (d.reads + 1) } := by
          rw [e2]
          exact h.upd (OnlyD.setCell b 4 w _) rfl rfl (by simp [World.setCell, Array.getElem?_modify, h.blk]; rfl) ⟨h.ok.len, h.ok.sz, h.ok.pd, h.ok.brk⟩
        have H2 : Hid (RMem w2 b sv wv { d with reads := wrap64 (d.reads + 1) }) := h2
        have O2 : Hid (OnlyD b w w2) := by show OnlyD _ _ _; rw [e2]; exact OnlyD.setCell _ _ _ _
        have CN : Hid (Calls Tryz.prog 103 #[ptr b, .int .i64 n] w2 fun e w' => e = .returned (.string (d.now n)) ∧ w2 = w') := now_r h2 n h1 hl
        clear h es h2
        go_enter Tryz.func77, Tryz.ntmps77
        go_wp2_with fail
        rw [← e2]
        clear e2
        refine Calls.mono CN.out ?_
        rintro e w3 ⟨rfl, rfl⟩
        go_wp2
        go_ret2
        rw [HG.out]
        exact ⟨rfl, O2.out, H2.out⟩
      · have h1z : (d.sure.length : Int) ≤ (n : Int) := by omega
        have HG : Hid (d.get n = ((ByteArray.empty, 40), d)) := by show d.get n = _; unfold Dk.get; rw [if_neg hd, if_neg (by unfold Dk.has; simp; omega)]
        clear h es
        go_enter Tryz.func77, Tryz.ntmps77
        go_wp2
        go_ret2
        rw [HG.out]
        exact ⟨rfl, OnlyD.refl _ _, H.out⟩

set_option maxHeartbeats 400000 in
theorem stop_r (h : RMem w b sv wv d) (n : Int) (hn : n ≤ 9223372036854775807) : Calls Tryz.prog 22 #[ptr b, .int .i64 n] w fun e w' => e = .returned (.tuple #[]) ∧ OnlyD b w w' ∧ RMem w' b sv wv (d.stop n) := by
  have H : Hid (RMem w b sv wv d) := h
  have c3 := h.c3; have f3 := h.fz 3; have lt := h.bl
  have HB : Hid ((d.stop n).brkI = max n (-1)) := by
    show _ = _
    unfold Dk.stop Dk.brkI
    by_cases h0 : n < 0
    · simp only [if_pos h0]; omega
    · simp only [if_neg h0]; omega
  have O : Hid ((d.stop n).Ok) := h.ok.stop hn
  clear h
  go_enter Tryz.func22, Tryz.ntmps22
  go_wp2
  go_end0
  refine ⟨rfl, OnlyD.setCell b 3 w _, ?_⟩
  refine H.out.upd (OnlyD.setCell b 3 w _) rfl rfl ?_ O.out
  rw [HB.out]
  simp [World.setCell, Array.getElem?_modify, H.out.blk, Dk.stop]

end
end

/-! RefPut -/
section
open Go.RowKit
set_option linter.unusedVariables false
section
variable {w w' : World} {b : Nat} {sv wv : Value} {d : Dk}

theorem infoWriteR : (Tryz.prog.info? 129).map (fun i => (i.zero, i.size, i.bytes)) = some (some (.agg #[.int .i64 0, .string ByteArray.empty]), 2, 24) := by kernel_rfl

/-- append of one write of the reference's. -/
theorem app_writeR {ops : Array Oper} {rest : List Oper} {o : Oper} {a : Act} {Q : Exit → Act → World → Prop} {w : World} (hgd : o.guard = .none) (s x : Operand) (ho : o.op = .call { callee := .builtin .append, args := #[s, x], argTypes := #[58, 58] })
    (v : Value) (l : List Wr) (hs : a.eval s = v) (hown : w.ownsRow 0 129 2 v l.length (flatW l)) (r c : Nat) (hx : a.eval x = .slice (some ⟨r, 0, none⟩) 1 c) (p : Wr)
    (c0 : w.cell? ⟨r, 0, none⟩ = some (.int .i64 p.1)) (c1 : w.cell? ⟨r, 1, none⟩ = some (.string p.2)) (hl : l.length < 100000)
    (hK : ∀ ao n' c' w', w'.ownsRow 0 129 2 (.slice ao n' c') (l ++ [p]).length (flatW (l ++ [p])) → w.grownBy w' v.ownBlock → ((Value.slice ao n' c').ownBlock = v.ownBlock ∨ (Value.slice ao n' c').ownBlock = some w.heap.size) → wpList Tryz.prog ops Q rest (a.put o.dst (.slice ao n' c')) w') : wpList Tryz.prog ops Q (o :: rest) a w := by
  obtain ⟨i0, hi, hz0, hz1, hz2⟩ := info_parts infoWriteR
  refine wpList_append_own_at w hgd s x 58 ho 0 129 i0 _ 2 24 Tryz.underlying58 hi hz0 hz1 hz2 rfl (by decide) v l.length (flatW l) hs hown ⟨r, 0, none⟩ 1 c [.int .i64 p.1, .string p.2] hx rfl (fun j u hj => ?_) (fun u hu => by simp at hu; rcases hu with rfl | rfl <;> rfl) (by unfold maxLen; omega) (by omega) (Nat.zero_le _) ?_
  · match j, hj with
    | 0, hj => simp at hj; subst hj; exact c0
    | 1, hj => simp at hj; subst hj; exact c1
    | j + 2, hj => simp at hj
  · intro v' w' h2 h3 _ h5
    obtain ⟨ao, n', c', rfl⟩ : ∃ ao n c, v' = .slice ao n c := by
      rcases h2.2 with ⟨h, _⟩ | ⟨g, cap, cur, h, _⟩
      · exact ⟨_, _, _, h⟩
      · exact ⟨_, _, _, h⟩
    refine hK _ _ _ _ ?_ h3 h5
    rw [flatW_snoc]
    simpa using h2

theorem put_mid {w2 : World} {v' : Value} {o : Obj} (h : RMem w b sv wv d) (n : Nat) (hn : n < d.sure.length) (s : ByteArray) (hs : s.size = 256) (hG : (w.alloc o).grownBy w2 wv.ownBlock)
    (hO : w2.ownsRow 0 129 2 v' (d.pend ++ [(n, s)]).length (flatW (d.pend ++ [(n, s)]))) (hL : v'.ownBlock = wv.ownBlock ∨ v'.ownBlock = some (w.heap.size + 1)) :
    RMem (w2.setCell ⟨b, 1, none⟩ v') b sv v' { d with pend := d.pend ++ [(n, s)] } ∧ Turn (fun k => k = b ∨ wv.ownBlock = some k) w (w2.setCell ⟨b, 1, none⟩ v') := by
  have k2 : ∀ k, k < w.heap.size → wv.ownBlock ≠ some k → w2.heap[k]? = w.heap[k]? := fun k hk hp => (hG.block k (by simp; omega) (Ne.symm hp)).trans (Below.heap_alloc w _ k hk)
  have e3 : ∀ k, k ≠ b → (w2.setCell ⟨b, 1, none⟩ v').heap[k]? = w2.heap[k]? := fun k hk => Below.heap_setCell _ _ _ _ hk
  have hvb : ∀ k, v'.ownBlock = some k → k ≠ b := fun k hk => by
    rcases hL with e | e
    · exact fun e2 => h.wb (by rw [← e, hk, e2])
    · rw [hk] at e
      have e2 : k = w.heap.size + 1 := Option.some.inj e
      have := h.bl
      omega
  refine ⟨⟨?_, ?_, ownsRow_kept' hO (fun k hk => e3 k (hvb k hk)), ⟨h.ok.len, h.ok.sz, fun p hp => ?_, h.ok.brk⟩, h.sb, fun e => hvb _ e rfl, fun k hk e => ?_⟩, ?_⟩
  · have hb2 := k2 b h.bl h.wb
    simp [World.setCell, Array.getElem?_modify, hb2, h.blk]
    rfl
  · exact ownsRow_kept' h.row (fun k hk => (e3 k (fun e => h.sb (by rw [hk, e]))).trans (k2 k (h.row.lt k hk).2 (h.sw k hk)))
  · rcases List.mem_append.1 hp with h1 | h1
    · exact h.ok.pd p h1
    · simp only [List.mem_singleton] at h1
      subst h1
      exact ⟨hn, hs⟩
  · rcases hL with e1 | e1
    · exact h.sw k hk (e1 ▸ e)
    · rw [e] at e1
      have := (h.row.lt k hk).2
      have := Option.some.inj e1
      omega
  · refine ⟨hG.os, hG.tape, hG.output, ?_, fun k hk hx => ?_⟩
    · have := hG.size; simp [World.setCell] at this ⊢; omega
    · exact (e3 k (fun e => hx (.inl e))).trans (k2 k hk (fun e => hx (.inr e)))

theorem brkI_none {d : Dk} (h : d.brk = none) : d.brkI = -1 := by unfold Dk.brkI; rw [h]
theorem brkI_some {d : Dk} {k : Nat} (h : d.brk = some k) : d.brkI = k := by unfold Dk.brkI; rw [h]

/-- The disk, whatever block its pending writes lie in. -/
def RD (w : World) (b : Nat) (sv wv0 : Value) (n0 : Nat) (d : Dk) : Prop := ∃ wv, RMem w b sv wv d ∧ ∀ k, wv.ownBlock = some k → wv0.ownBlock = some k ∨ n0 ≤ k

set_option maxHeartbeats 2000000 in
set_option maxRecDepth 100000 in
theorem put_ok_r (h : RMem w b sv wv d) (n : Nat) (hn : n < d.sure.length) (s : ByteArray) (hs : s.size = 256) (hd : d.down = false) (hl : d.pend.length < 100000) :
    Calls Tryz.prog 81 #[ptr b, .int .i64 n, .string s] w fun e w' => e = .returned (.int .i64 (d.put n s).1) ∧ Turn (fun k => k = b ∨ wv.ownBlock = some k) w w' ∧ RD w' b sv wv w.heap.size (d.put n s).2 := by
  have H : Hid (RMem w b sv wv d) := h
  have c0 := h.c0; have c1 := h.c1; have c2 := h.c2; have f1 := h.fz 1; have lt := h.bl; have hsl := h.ok.len
  obtain ⟨asv, csv, es⟩ := h.sv_slice
  rw [es] at c0
  rw [hd] at c2
  have h1z : ¬ (d.sure.length : Int) ≤ (n : Int) := by omega
  have HP : Hid (d.put n s = { d with pend := d.pend ++ [(n, s)], writes := wrap64 (d.writes + 1) : Dk }.tick) := Dk.put_ok hd (Dk.has_nat hn) hs
  have PN : Hid (w.ownsRow 0 129 2 wv d.pend.length (flatW d.pend)) := h.wt
  have PA : Hid ((w.alloc (.cells #[.int .i64 n, .string s] 129)).ownsRow 0 129 2 wv d.pend.length (flatW d.pend)) := (h.alloc _).wt
  clear h es
  go_enter Tryz.func81, Tryz.ntmps81
  go_wp2_with (at_builtin; refine app_writeR rfl _ _ rfl wv d.pend rfl PA.out w.heap.size 1 rfl (n, s) (by simp) (by simp) hl ?_)
  intro ao n' c' w2 ho hg hloc
  have HG2 : Hid ((w.alloc (.cells #[.int .i64 n, .string s] 129)).grownBy w2 wv.ownBlock) := hg
  have HL2 : Hid ((Value.slice ao n' c').ownBlock = wv.ownBlock ∨ (Value.slice ao n' c').ownBlock = some (w.heap.size + 1)) := by show _ ∨ _; simpa using hloc
  have HO2 : Hid (w2.ownsRow 0 129 2 (.slice ao n' c') (d.pend ++ [(n, s)]).length (flatW (d.pend ++ [(n, s)]))) := by show w2.ownsRow _ _ _ _ _ _; rw [List.length_append]; exact ho
  have hb2 : w2.heap[b]? = w.heap[b]? := (hg.block b (by simp; omega) H.out.wb.symm).trans (Below.heap_alloc _ _ _ lt)
  have cb2 : w2.cell? ⟨b, 1, none⟩ = some wv := (World.cell?_of_block (a := ⟨b, 1, none⟩) hb2).trans c1
  have fb2 : w2.frozen? ⟨b, 1, none⟩ = false := (World.frozen?_of_block (a := ⟨b, 1, none⟩) hb2).trans f1
  obtain ⟨hM3, hT3⟩ := put_mid H.out n hn s hs HG2.out HO2.out HL2.out
  have cc : ∀ j, w2.cell? ⟨b, j, none⟩ = w.cell? ⟨b, j, none⟩ := fun j => World.cell?_of_block (a := ⟨b, j, none⟩) hb2
  have ff : ∀ j, w2.frozen? ⟨b, j, none⟩ = w.frozen? ⟨b, j, none⟩ := fun j => World.frozen?_of_block (a := ⟨b, j, none⟩) hb2
  have k5 := (cc 5).trans H.out.c5; have g5 := (ff 5).trans (H.out.fz 5); have k3 := (cc 3).trans H.out.c3; have g3 := (ff 3).trans (H.out.fz 3); have k2 := (cc 2).trans H.out.c2; have g2 := (ff 2).trans (H.out.fz 2)
  have lt2 : b < w2.heap.size := by have := hg.size; simp at this; omega
  have T3 : Hid (Turn (fun k => k = b ∨ wv.ownBlock = some k) w (w2.setCell ⟨b, 1, none⟩ (.slice ao n' c'))) := hT3
  have BL : Hid (∀ k, (Value.slice ao n' c').ownBlock = some k → wv.ownBlock = some k ∨ w.heap.size ≤ k) := fun k hk => by
    rcases HL2.out with e | e
    · exact .inl (e ▸ hk)
    · rw [hk] at e; exact .inr (by have := Option.some.inj e; omega)
  have H7 : Hid (RMem ((w2.setCell ⟨b, 1, none⟩ (.slice ao n' c')).setCell ⟨b, 5, none⟩ (.int .i64 (wrap64 (d.writes + 1)))) b sv (.slice ao n' c') { d with pend := d.pend ++ [(n, s)], writes := wrap64 (d.writes + 1) }) :=
    hM3.upd (OnlyD.setCell b 5 _ _) rfl rfl (by rw [heap_setCell_same _ b 5 _ _ _ hM3.blk]; rfl) ⟨hM3.ok.len, hM3.ok.sz, hM3.ok.pd, hM3.ok.brk⟩
  have T7 : Hid (Turn (fun k => k = b ∨ wv.ownBlock = some k) w ((w2.setCell ⟨b, 1, none⟩ (.slice ao n' c')).setCell ⟨b, 5, none⟩ (.int .i64 (wrap64 (d.writes + 1))))) := T3.out.trans (Turn.setCell (X := fun k => k = b) _ rfl _) (fun _ hk => .inl (.inl hk))
  clear ho hg hloc hb2 hM3 hT3 PA cc ff T3
  cases hbr : d.brk with
  | none =>
    rw [brkI_none hbr] at k3
    have HT : Hid ({ d with pend := d.pend ++ [(n, s)], writes := wrap64 (d.writes + 1) : Dk }.tick = (0, { d with pend := d.pend ++ [(n, s)], writes := wrap64 (d.writes + 1) })) := by show _ = _; unfold Dk.tick; rw [show ({ d with pend := d.pend ++ [(n, s)], writes := wrap64 (d.writes + 1) } : Dk).brk = none from hbr]
    clear hbr
    go_wp2
    go_ret
    rw [HP.out, HT.out]
    exact ⟨rfl, T7.out, _, H7.out, BL.out⟩
  | some k =>
    rw [brkI_some hbr] at k3
    have hk63 : k ≤ 9223372036854775807 := H.out.ok.brk k hbr
    cases k with
    | zero =>
      have HT : Hid ({ d with pend := d.pend ++ [(n, s)], writes := wrap64 (d.writes + 1) : Dk }.tick = (4, { d with pend := d.pend ++ [(n, s)], writes := wrap64 (d.writes + 1), down := true, brk := none })) := by show _ = _; unfold Dk.tick; rw [show ({ d with pend := d.pend ++ [(n, s)], writes := wrap64 (d.writes + 1) } : Dk).brk = some 0 from hbr]
      clear hbr hk63
      go_wp2
      go_ret
      rw [HP.out, HT.out]
      refine ⟨rfl, (T7.out.trans (Turn.setCell (X := fun k => k = b) _ rfl _) (fun _ hk => .inl (.inl hk))).trans (Turn.setCell (X := fun k => k = b) _ rfl _) (fun _ hk => .inl (.inl hk)), _, ?_, BL.out⟩
      have h7 := H7.out
      refine h7.upd ((OnlyD.setCell b 2 _ _).trans (OnlyD.setCell b 3 _ _)) rfl rfl ?_ ⟨h7.ok.len, h7.ok.sz, h7.ok.pd, (fun k hk => by cases hk)⟩
      rw [heap_setCell_same _ b 3 _ _ _ (heap_setCell_same _ b 2 _ _ _ h7.blk)]
      rfl
    | succ k =>
      have HT : Hid ({ d with pend := d.pend ++ [(n, s)], writes := wrap64 (d.writes + 1) : Dk }.tick = (0, { d with pend := d.pend ++ [(n, s)], writes := wrap64 (d.writes + 1), brk := some k })) := by show _ = _; unfold Dk.tick; rw [show ({ d with pend := d.pend ++ [(n, s)], writes := wrap64 (d.writes + 1) } : Dk).brk = some (k + 1) from hbr]
      have ew : wrap64 (((k + 1 : Nat) : Int) - 1) = (k : Int) := by unfold wrap64; omega
      have gt : (0 : Int) < ((k + 1 : Nat) : Int) := by omega
      have ne0 : ((((k + 1 : Nat) : Int)) == 0) = false := beq_eq_false_iff_ne.2 (by omega)
      have HK : Hid (k + 1 ≤ 9223372036854775807) := hk63
      clear hbr hk63
      go_wp2
      go_ret
      rw [HP.out, HT.out]
      refine ⟨rfl, T7.out.trans (Turn.setCell (X := fun k => k = b) _ rfl _) (fun _ hk => .inl (.inl hk)), _, ?_, BL.out⟩
      have h7 := H7.out
      refine h7.upd (OnlyD.setCell b 3 _ _) rfl rfl ?_ ⟨h7.ok.len, h7.ok.sz, h7.ok.pd, (fun j hj => by cases hj; have := HK.out; omega)⟩
      rw [heap_setCell_same _ b 3 _ _ _ h7.blk, show wrap64 (k : Int) = k by unfold wrap64; have := HK.out; omega]
      rfl

set_option maxHeartbeats 1000000 in
theorem put_no_r (h : RMem w b sv wv d) (i : Int) (s : ByteArray) (hno : d.down = true ∨ d.has i = false ∨ s.size ≠ 256) (hsz : s.size ≤ maxLen) :
    Calls Tryz.prog 81 #[ptr b, .int .i64 i, .string s] w fun e w' => e = .returned (.int .i64 (d.put i s).1) ∧ w = w' ∧ (d.put i s).2 = d := by
  have c0 := h.c0; have c2 := h.c2; have lt := h.bl; have hsl := h.ok.len
  obtain ⟨asv, csv, es⟩ := h.sv_slice
  rw [es] at c0
  unfold maxLen at hsz
  clear h es
  by_cases hd : d.down = true
  · have HP : Hid (d.put i s = (4, d)) := Dk.put_down hd
    rw [hd] at c2
    clear hno
    go_enter Tryz.func81, Tryz.ntmps81
    go_wp2
    go_ret
    rw [HP.out]
    exact ⟨rfl, rfl, rfl⟩
  · have hf : d.down = false := by simpa using hd
    rw [hf] at c2
    by_cases h0 : i < 0
    · have HP : Hid (d.put i s = (40, d)) := Dk.put_range hf (by unfold Dk.has; simp; omega)
      clear hno
      go_enter Tryz.func81, Tryz.ntmps81
      go_wp2
      go_ret
      rw [HP.out]
      exact ⟨rfl, rfl, rfl⟩
    · obtain ⟨n, rfl⟩ : ∃ n : Nat, i = n := ⟨i.toNat, by omega⟩
      by_cases h1 : n < d.sure.length
      · have h1z : ¬ (d.sure.length : Int) ≤ (n : Int) := by omega
        have hs : s.size ≠ 256 := by
          rcases hno with h | h | h
          · exact absurd h hd
          · rw [Dk.has_nat h1] at h; cases h
          · exact h
        have HP : Hid (d.put n s = (1, d)) := Dk.put_arg hf (Dk.has_nat h1) hs
        have hs2 : ((s.size : Int) == 256) = false := beq_eq_false_iff_ne.2 (by omega)
        clear hno
        go_enter Tryz.func81, Tryz.ntmps81
        go_wp2
        go_ret
        rw [HP.out]
        exact ⟨rfl, rfl, rfl⟩
      · have h1z : (d.sure.length : Int) ≤ (n : Int) := by omega
        have HP : Hid (d.put n s = (40, d)) := Dk.put_range hf (by unfold Dk.has; simp; omega)
        clear hno
        go_enter Tryz.func81, Tryz.ntmps81
        go_wp2
        go_ret
        rw [HP.out]
        exact ⟨rfl, rfl, rfl⟩

end
end

/-! RefSync -/
section
open Go.RowKit
set_option linter.unusedVariables false
section
variable {w w' : World} {b : Nat} {sv wv : Value} {d : Dk}

theorem RMem.clear (h : RMem w b sv wv d) : RMem (w.setCell ⟨b, 1, none⟩ (.slice none 0 0)) b sv (.slice none 0 0) { d with pend := [] } := by
  refine ⟨?_, ownsRow_kept' h.row (fun k hk => Below.heap_setCell _ _ _ _ (fun e => h.sb (by rw [hk]; exact congrArg some e))), World.ownsRow_nil _ _ _ _, ⟨h.ok.len, h.ok.sz, (fun p hp => by cases hp), h.ok.brk⟩, h.sb, by simp [Value.ownBlock], fun k _ => by simp [Value.ownBlock]⟩
  rw [heap_setCell_same _ b 1 _ _ _ h.blk]
  rfl

set_option maxHeartbeats 4000000 in
set_option maxRecDepth 100000 in
theorem sync_r (h : RMem w b sv wv d) (hd : d.down = false) (hl : d.pend.length < 100000) :
    Calls Tryz.prog 52 #[ptr b] w fun e w' => e = .returned (.int .i64 0) ∧ Turn (fun k => k = b ∨ sv.ownBlock = some k) w w' ∧ RMem w' b sv (.slice none 0 0) d.sync.2 := by
  have H : Hid (RMem w b sv wv d) := h
  have c2 := h.c2
  rw [hd] at c2
  have lt := h.bl
  obtain ⟨aw, cw, ew⟩ := h.wv_slice
  have EW : Hid (wv = .slice aw d.pend.length cw) := ew
  clear h ew
  go_enter Tryz.func52, Tryz.ntmps52
  go_wp2
  go_loopg [3] d.pend.length (fun gk s3 wr => ∃ k : Nat, s3 = .int .i64 k ∧ k ≤ d.pend.length ∧ d.pend.length - k ≤ gk ∧ Aside (RMem wr b sv wv (d.at (syncTo d.pend d.sure k))) ∧ Hid (Turn (fun k => k = b ∨ sv.ownBlock = some k) w wr))
  case atStart => exact ⟨0, rfl, Nat.zero_le _, Nat.le_refl _, H.out, Turn.refl _ _⟩
  case round =>
    obtain ⟨k, rfl, hk, hgk, HM, HT⟩ := hrel
    have hM := HM.out
    have c0 := hM.c0; have c1 := hM.c1; have ltr := hM.bl; have f1 := hM.fz 1
    rw [EW.out] at c1
    by_cases hkl : k < d.pend.length
    · have hklz : (k : Int) < (d.pend.length : Int) := by omega
      have hw := wAt_ok H.out.ok hkl
      have hlen : (d.at (syncTo d.pend d.sure k)).sure.length = d.sure.length := syncTo_length _ _ _
      have hsl := H.out.ok.len
      obtain ⟨q, c', e1, x0, x1, hq⟩ := hM.wcell (k := k) hkl
      obtain ⟨rfl, rfl⟩ : aw = some ⟨q, 0, none⟩ ∧ cw = c' := by have e2 := EW.out.symm.trans e1; simp [Dk.at] at e2; exact e2
      obtain ⟨r, cs, es, y0, yf, hr⟩ := hM.scell (i := (wAt d.pend k).1) (by rw [hlen]; exact hw.1)
      have x0' : wr.cell? ⟨q, k * 2, none⟩ = some (.int .i64 (wAt d.pend k).1) := x0
      have x1' : wr.cell? ⟨q, k * 2 + 1, none⟩ = some (.string (wAt d.pend k).2) := x1
      have SS : Hid (syncTo d.pend d.sure (k + 1) = (syncTo d.pend d.sure k).set (wAt d.pend k).1 (wAt d.pend k).2) := syncTo_succ _ _ _
      generalize wAt d.pend k = p at *
      obtain ⟨pi, ps⟩ := p
      simp only at hw x0' x1' y0 yf SS
      rw [hlen] at es
      subst es
      have hpz : (pi : Int) < (d.sure.length : Int) := by omega
      have M3 : Hid (RMem (wr.setCell ⟨r, pi, none⟩ (.string ps)) b (.slice (some ⟨r, 0, none⟩) d.sure.length cs) wv (d.at (syncTo d.pend d.sure (k + 1)))) := by
        show RMem _ _ _ _ _
        rw [SS.out]
        have hM' := hM
        rw [← hlen] at hM'
        have := hM'.setS pi (by rw [hlen]; exact hw.1) ps hw.2
        rw [hlen] at this
        exact this
      generalize sAt (d.at (syncTo d.pend d.sure k)).sure pi = old at y0
      clear x0 x1 hM e1 hlen
      go_wp2
      go_region
      go_wp2
      go_roundg (d.pend.length - (k + 1))
      case measure => omega
      case rel => exact ⟨k + 1, by go_num, by omega, Nat.le_refl _, M3.out.drew, (HT.out.trans (Turn.setCell (X := fun k => k = r) _ rfl _) (fun k hk => .inl (.inr (by rw [hk]; rfl)))).trans (Turn.drew (fun k => k = r) _) (fun k hk => .inl (.inr (by rw [hk]; rfl)))⟩
    · have hklz : ¬ (k : Int) < (d.pend.length : Int) := by omega
      obtain rfl : k = d.pend.length := by omega
      have HS : Hid (d.sync.2 = { d.at (syncTo d.pend d.sure d.pend.length) with pend := [] }) := by show d.sync.2 = _; rw [Dk.sync_ok hd]; rfl
      have M4 : Hid _ := hM.clear
      clear hM
      go_wp2
      go_ret
      refine ⟨rfl, HT.out.trans (Turn.setCell (X := fun k => k = b) _ rfl _) (fun k hk => .inl (.inl hk)), ?_⟩
      rw [HS.out]
      exact M4.out

set_option maxHeartbeats 1000000 in
theorem sync_no_r (h : RMem w b sv wv d) (hd : d.down = true) : Calls Tryz.prog 52 #[ptr b] w fun e w' => e = .returned (.int .i64 4) ∧ w = w' := by
  have c2 := h.c2
  rw [hd] at c2
  have lt := h.bl
  clear h
  go_enter Tryz.func52, Tryz.ntmps52
  go_wp2
  go_ret
  exact ⟨rfl, rfl⟩

end
end

/-! RefNew -/
section
open Go.RowKit
set_option linter.unusedVariables false

/-- append of one text, as one step of a region that draws. -/
theorem step_str {ops : Array Oper} {o : Oper} {a : Act} {w : World} {K : Act → World → Prop} {Q : Exit → Act → World → Prop} {E : Prop}
    (hg : o.guard = none) (s x : Operand) (hop : o.op = Op.call { callee := Callee.builtin Builtin.append, args := #[s, x], argTypes := #[54, 54] })
    (v : Value) (cs : List Value) (hs : a.eval s = v) (hown : w.ownsRow 0 9 1 v cs.length cs) (r c : Nat) (t : ByteArray) (hx : a.eval x = .slice (some ⟨r, 0, none⟩) 1 c)
    (c0 : w.cell? ⟨r, 0, none⟩ = some (.string t)) (hl : cs.length < 100000)
    (hK : ∀ ao n' c' w', w'.ownsRow 0 9 1 (.slice ao n' c') (cs.length + 1) (cs ++ [.string t]) → w.grownBy w' v.ownBlock → ((Value.slice ao n' c').ownBlock = v.ownBlock ∨ (Value.slice ao n' c').ownBlock = some w.heap.size) → K (a.put o.dst (.slice ao n' c')) w') :
    if Region.wanted o (yielded ops a.tmps) = true then Oper.wp Tryz.prog o a w K Q else E := by
  have hw : Region.wanted o (yielded ops a.tmps) = true := by simp [Region.wanted, hg]
  rw [if_pos hw]
  obtain ⟨i0, hi, hz0, hz1, hz2⟩ := info_parts infoStr
  obtain ⟨v', w', hr, h2, h3, h4, h5⟩ := run_append_own_at (P := Tryz.prog) w 0 54 o.type 9 i0 _ 1 16 Tryz.underlying54 hi hz0 hz1 hz2 rfl (by decide) v cs.length cs hown ⟨r, 0, none⟩ 1 c [.string t] rfl (fun j u hj => by
    match j, hj with
    | 0, hj => simp at hj; subst hj; exact c0
    | j + 1, hj => simp at hj) (fun u hu => by simp at hu; subst hu; rfl) (by unfold maxLen; omega) (by omega) (Nat.zero_le _)
  obtain ⟨ao, c', rfl⟩ := slice_of h2
  unfold Oper.wp
  simp [execOp, hop, resolve, invoke, builtin, hs, hx, hr, Result.andThen]
  exact hK _ _ _ _ h2 h3 h5

/-- What New has laid behind k rounds. -/
structure RNew (w0 : World) (w : World) (sv : Value) (k : Nat) : Prop where
  blk : w.heap[w0.heap.size]? = some (.cells #[sv, .slice none 0 0, .bool false, .int .i64 (-1), .int .i64 0, .int .i64 0] 60 (0, 0))
  row : w.ownsRow 0 9 1 sv k ((List.replicate k zeroS).map Value.string)
  bel : Below w0.heap.size w0 w
  own : ∀ j, sv.ownBlock = some j → w0.heap.size < j
theorem RNew.step {w0 w w1 w2 : World} {sv v' : Value} {k : Nat} (h : RNew w0 w sv k) (hw : Below w.heap.size w w1) (hg : w1.grownBy w2 sv.ownBlock) (ho : w2.ownsRow 0 9 1 v' (k + 1) ((List.replicate k zeroS).map Value.string ++ [.string zeroS]))
    (hl : v'.ownBlock = sv.ownBlock ∨ v'.ownBlock = some w1.heap.size) : RNew w0 (w2.setCell ⟨w0.heap.size, 0, none⟩ v') v' (k + 1) := by
  have hb : w0.heap.size < w.heap.size := (Array.getElem?_eq_some_iff.1 h.blk).1
  have s1 := hw.size
  have e0 : w2.heap[w0.heap.size]? = w.heap[w0.heap.size]? := (hg.block _ (by omega) (fun e => by have := h.own _ e.symm; omega)).trans (hw.block _ hb)
  have hv : ∀ j, v'.ownBlock = some j → w0.heap.size < j := fun j hj => by
    rcases hl with e | e
    · exact h.own j (e ▸ hj)
    · rw [hj] at e; have := Option.some.inj e; omega
  refine ⟨?_, ?_, ?_, hv⟩
  · rw [heap_setCell_same _ w0.heap.size 0 _ _ _ (e0.trans h.blk)]; rfl
  · have e1 : (List.replicate (k + 1) zeroS).map Value.string = (List.replicate k zeroS).map Value.string ++ [.string zeroS] := by rw [List.replicate_succ']; simp
    rw [e1]
    exact ownsRow_kept' ho (fun j hj => Below.heap_setCell _ _ _ _ (by have := hv j hj; show j ≠ w0.heap.size; omega))
  · refine (h.bel.trans (hw.mono (by omega))).trans ⟨hg.os, hg.tape, hg.output, by have := hg.size; simp [World.setCell]; omega, fun j hj => ?_⟩
    rw [Below.heap_setCell _ _ _ _ (by show j ≠ w0.heap.size; omega)]
    exact hg.block j (by omega) (fun e => by have := h.own _ e.symm; omega)

/-- The reference's disk. -/
def RefD (b : Nat) (d : Dk) : Res := fun w X => (∃ sv wv, RMem w b sv wv d ∧ X b ∧ (∀ k, sv.ownBlock = some k → X k) ∧ ∀ k, wv.ownBlock = some k → X k) ∧ ∀ k, X k → k < w.heap.size
theorem good_ref (b : Nat) (d : Dk) : Good (RefD b d) :=
  ⟨fun w w' X h hk hs => by
    obtain ⟨⟨sv, wv, hM, xb, xs, xw⟩, hl⟩ := h
    exact ⟨⟨sv, wv, hM.kept (hk _ xb) (fun k h => hk k (xs k h)) (fun k h => hk k (xw k h)), xb, xs, xw⟩, fun k hk => Nat.lt_of_lt_of_le (hl k hk) hs⟩, fun w X h => h.2⟩

set_option maxHeartbeats 4000000 in
set_option maxRecDepth 100000 in
theorem new_r (n : Int) (w : World) : Calls Tryz.prog 7 #[.int .i64 n] w fun e w' => e = .returned (ptr w.heap.size) ∧ Below w.heap.size w w' ∧ RefD w.heap.size (Dk.new n) w' (fun k => w.heap.size ≤ k ∧ k < w'.heap.size) := by
  obtain ⟨N, hN⟩ : ∃ N : Nat, N = (min (max n 0) 16384).toNat := ⟨_, rfl⟩
  have hNl : N ≤ 16384 := by omega
  have HD : Hid (Dk.new n = ⟨List.replicate N zeroS, [], none, false, 0, 0⟩) := by show Dk.new n = _; unfold Dk.new; rw [hN]
  have OKD : Hid ((Dk.new n).Ok) := Dk.new_ok n
  have hmx : min (max n 0) 16384 = (N : Int) := by omega
  clear hN
  have R0 : Hid (RNew w (w.alloc (.cells #[.slice none 0 0, .slice none 0 0, .bool false, .int .i64 (-1), .int .i64 0, .int .i64 0] 60)) (.slice none 0 0) 0) :=
    ⟨heap_alloc_new w _, World.ownsRow_nil _ _ _ _, (Below.refl _ _).alloc (Nat.le_refl _) _, fun j hj => by simp [Value.ownBlock] at hj⟩
  go_enter Tryz.func7, Tryz.ntmps7
  go_wp2
  go_loopg [4] N (fun gk s4 wr => ∃ (k : Nat) (ao : Option Addr) (nn cc : Nat), s4 = .int .i64 k ∧ k ≤ N ∧ N - k ≤ gk ∧ Aside (RNew w wr (.slice ao nn cc) k))
  case atStart => exact ⟨0, none, 0, 0, rfl, Nat.zero_le _, Nat.le_refl _, R0.out⟩
  case round =>
    obtain ⟨k, ao, nn, cc, rfl, hk, hgk, R⟩ := hrel
    have hb : w.heap.size < wr.heap.size := (Array.getElem?_eq_some_iff.1 R.out.blk).1
    have c0 : wr.cell? ⟨w.heap.size, 0, none⟩ = some (.slice ao nn cc) := by simp [World.cell?, R.out.blk]
    have f0 : wr.frozen? ⟨w.heap.size, 0, none⟩ = false := by simp [World.frozen?, R.out.blk]
    by_cases hkl : k < N
    · have hkz : (k : Int) < (N : Int) := by omega
      have ZC : Hid (∀ u, Calls Tryz.prog 39 #[] u fun e w' => e = .returned (.string zeroS) ∧ u = w') := zero_c
      obtain ⟨z, hz⟩ : ∃ z, z = zeroS := ⟨_, rfl⟩
      rw [← hz] at ZC
      have HZ : Hid (z = zeroS) := hz
      clear hz
      go_wp2
      go_region_law (first | (refine step_str rfl _ _ rfl (.slice ao nn cc) ((List.replicate k zeroS).map Value.string) rfl (by rw [List.length_map, List.length_replicate]; exact ownsRow_kept' R.out.row (fun j hj => Below.heap_alloc _ _ _ (R.out.row.lt j hj).2)) wr.heap.size 1 z rfl (by simp) (by simp; omega) ?_; intro a2 n2 c2 w2 ho hg hloc; have HO : Hid (w2.ownsRow 0 9 1 (.slice a2 n2 c2) (((List.replicate k zeroS).map Value.string).length + 1) ((List.replicate k zeroS).map Value.string ++ [.string z])) := ho; have HG : Hid ((wr.alloc (.cells #[.string z] 9)).drew.grownBy w2 (Value.slice ao nn cc).ownBlock) := hg; have HL : Hid ((Value.slice a2 n2 c2).ownBlock = (Value.slice ao nn cc).ownBlock ∨ (Value.slice a2 n2 c2).ownBlock = some (wr.alloc (.cells #[.string z] 9)).drew.heap.size) := hloc; have hb2 : w2.heap[w.heap.size]? = wr.heap[w.heap.size]? := (hg.block _ (by simp; omega) (fun e => by have := R.out.own _ e.symm; omega)).trans (Below.heap_alloc _ _ _ hb); have cb : w2.cell? ⟨w.heap.size, 0, none⟩ = some (.slice ao nn cc) := (World.cell?_of_block (a := ⟨w.heap.size, 0, none⟩) hb2).trans c0; have fb : w2.frozen? ⟨w.heap.size, 0, none⟩ = false := (World.frozen?_of_block (a := ⟨w.heap.size, 0, none⟩) hb2).trans f0; clear ho hg hloc hb2) | (go_simp; refine Calls.mono (ZC.out _) ?_; rintro e w5 ⟨rfl, rfl⟩; dsimp only))
      all_goals
        have R2 : Hid (RNew w (w2.setCell ⟨w.heap.size, 0, none⟩ (.slice a2 n2 c2)) (.slice a2 n2 c2) (k + 1)) := by
          have ho := HO.out
          rw [List.length_map, List.length_replicate, HZ.out] at ho
          exact RNew.step R.out (((Below.refl _ wr).alloc (Nat.le_refl _) (.cells #[.string z] 9)).drew) HG.out ho HL.out
        clear HO HG HL cb fb
        go_wp2
        go_roundg (N - (k + 1))
        case measure => omega
        case rel => exact ⟨k + 1, a2, n2, c2, by go_num, by omega, Nat.le_refl _, R2.out⟩
    · have hkz : ¬ (k : Int) < (N : Int) := by omega
      obtain rfl : k = N := by omega
      have fin : Below w.heap.size w wr ∧ RefD w.heap.size (Dk.new n) wr (fun k => w.heap.size ≤ k ∧ k < wr.heap.size) := by
        have r := R.out
        refine ⟨r.bel, ⟨.slice ao nn cc, .slice none 0 0, ?_, ⟨Nat.le_refl _, hb⟩, fun j hj => ⟨Nat.le_of_lt (r.own j hj), (r.row.lt j hj).2⟩, fun j hj => by simp [Value.ownBlock] at hj⟩, fun k hk => hk.2⟩
        have OK := OKD.out
        rw [HD.out] at OK ⊢
        refine ⟨r.blk, ?_, World.ownsRow_nil _ _ _ _, OK, fun e => by have := r.own _ e; omega, by simp [Value.ownBlock], fun k _ => by simp [Value.ownBlock]⟩
        show wr.ownsRow 0 9 1 _ (List.replicate k zeroS).length _
        rw [List.length_replicate]
        exact r.row
      have FIN : Hid (Below w.heap.size w wr ∧ RefD w.heap.size (Dk.new n) wr (fun k => w.heap.size ≤ k ∧ k < wr.heap.size)) := fin
      clear fin
      go_wp2
      go_ret
      exact ⟨rfl, FIN.out⟩
end

/-! RefCrash -/
section
open Go.RowKit
set_option linter.unusedVariables false
section
variable {w w' : World} {b : Nat} {sv wv : Value} {d : Dk}

end
end

/-! RefApi -/
section
open Go.RowKit
set_option linter.unusedVariables false
section
variable {B : Nat} {w0 w w' : World} {b : Nat} {d d' : Dk} {l : List Res}

theorem Calls.withRes {P : Program} {f : Nat} {args : Array Value} {v : Value} {a a' : Res} (h : Sep B w0 w (a :: l)) (g' : Good a') (hQ : ∀ X, a w X → (∀ k, X k → B ≤ k) → Calls P f args w (fun e w' => e = .returned v ∧ ∃ X', a' w' X' ∧ Turn X w w' ∧ ∀ k, X' k → X k ∨ w.heap.size ≤ k)) : Calls P f args w fun e w' => e = .returned v ∧ Sep B w0 w' (a' :: l) := by
  obtain ⟨hB, hb, Y, ⟨ga, X, Z, ha, hl, hd, hy⟩, hY⟩ := h
  refine (hQ X ha (fun k hk => hY k ((hy k).2 (.inl hk)))).mono ?_
  rintro e w' ⟨he, X', hm, ht, hx⟩
  refine ⟨he, Nat.le_trans hB ht.size, ht.below hb hB (fun k hk => hY k ((hy k).2 (.inl hk))), fun k => X' k ∨ Z k, ⟨g', X', Z, hm, hl.kept ht.size (fun k hk => ht.block k (hl.lt k hk) (fun hx => hd k hx hk)), fun k hk hz => ?_, fun k => Iff.rfl⟩, fun k hk => ?_⟩
  · rcases hx k hk with h1 | h1
    · exact hd k h1 hz
    · have := hl.lt k hz; omega
  · rcases hk with h1 | h1
    · rcases hx k h1 with h2 | h2
      · exact hY k ((hy k).2 (.inl h2))
      · omega
    · exact hY k ((hy k).2 (.inr h1))

theorem new_rs (n : Int) (h : Sep B w0 w l) : Calls Tryz.prog 7 #[.int .i64 n] w fun e w' => ∃ b, e = .returned (ptr b) ∧ Sep B w0 w' (RefD b (Dk.new n) :: l) := by
  refine (new_r n w).mono ?_
  rintro e w' ⟨he, hbl, hm⟩
  exact ⟨_, he, h.add hbl (good_ref _ _) hm (fun k hk => hk.1)⟩

theorem ref_of {X : Nat → Prop} {sv wv : Value} (hl : ∀ k, X k → k < w.heap.size) (xb : X b) (xs : ∀ k, sv.ownBlock = some k → X k) (hM : RMem w' b sv wv d') (hw : ∀ k, wv.ownBlock = some k → X k ∨ w.heap.size ≤ k) (ht : Turn X w w') :
    ∃ X', RefD b d' w' X' ∧ Turn X w w' ∧ ∀ k, X' k → X k ∨ w.heap.size ≤ k :=
  ⟨fun k => X k ∨ (w.heap.size ≤ k ∧ k < w'.heap.size), ⟨⟨sv, wv, hM, .inl xb, fun k hk => .inl (xs k hk), fun k hk => (hw k hk).elim .inl (fun h => .inr ⟨h, (hM.wt.lt k hk).2⟩)⟩, fun k hk => hk.elim (fun h => Nat.lt_of_lt_of_le (hl k h) ht.size) (fun h => h.2)⟩, ht, fun k hk => hk.elim .inl (fun h => .inr h.1)⟩

theorem read_rs (h : Sep B w0 w (RefD b d :: l)) (i : Int) (hp : d.pend.length < 100000) : Calls Tryz.prog 77 #[ptr b, .int .i64 i] w fun e w' => e = .returned (.tuple #[.string (d.get i).1.1, .int .i64 (d.get i).1.2]) ∧ Sep B w0 w' (RefD b (d.get i).2 :: l) :=
  Calls.withRes h (good_ref _ _) fun X ha _ => by
    obtain ⟨⟨sv, wv, hM, xb, xs, xw⟩, hl⟩ := ha
    refine (read_r hM i hp).mono ?_
    rintro e w' ⟨he, ho, hm⟩
    exact ⟨he, ref_of hl xb xs hm (fun k hk => .inl (xw k hk)) (ho.turn xb)⟩
theorem put_rs (h : Sep B w0 w (RefD b d :: l)) (i : Int) (s : ByteArray) (hs : s.size ≤ maxLen) (hp : d.pend.length < 100000) : Calls Tryz.prog 81 #[ptr b, .int .i64 i, .string s] w fun e w' => e = .returned (.int .i64 (d.put i s).1) ∧ Sep B w0 w' (RefD b (d.put i s).2 :: l) :=
  Calls.withRes h (good_ref _ _) fun X ha _ => by
    have ha0 := ha
    obtain ⟨⟨sv, wv, hM, xb, xs, xw⟩, hl⟩ := ha
    by_cases hno : d.down = true ∨ d.has i = false ∨ s.size ≠ 256
    · refine (put_no_r hM i s hno hs).mono ?_
      rintro e w' ⟨he, rfl, hq⟩
      exact ⟨he, by rw [hq]; exact ⟨X, ha0, Turn.refl _ _, fun k hk => .inl hk⟩⟩
    · have h1 : d.down = false := by
        cases hd : d.down
        · rfl
        · exact absurd (.inl hd) hno
      have h2 : d.has i = true := by
        cases hd : d.has i
        · exact absurd (.inr (.inl hd)) hno
        · rfl
      have h3 : s.size = 256 := Classical.byContradiction fun e => hno (.inr (.inr e))
      obtain ⟨p1, p2⟩ := of_decide_eq_true h2
      obtain ⟨n, rfl⟩ : ∃ n : Nat, i = n := ⟨i.toNat, by omega⟩
      refine (put_ok_r hM n (by omega) s h3 h1 hp).mono ?_
      rintro e w' ⟨he, ht, wv', hm, hw⟩
      exact ⟨he, ref_of hl xb xs hm (fun k hk => (hw k hk).imp (xw k) id) (ht.sub (fun k hk => by rcases hk with rfl | hk; exact xb; exact xw k hk))⟩
theorem sync_rs (h : Sep B w0 w (RefD b d :: l)) (hp : d.pend.length < 100000) : Calls Tryz.prog 52 #[ptr b] w fun e w' => e = .returned (.int .i64 d.sync.1) ∧ Sep B w0 w' (RefD b d.sync.2 :: l) :=
  Calls.withRes h (good_ref _ _) fun X ha _ => by
    have ha0 := ha
    obtain ⟨⟨sv, wv, hM, xb, xs, xw⟩, hl⟩ := ha
    by_cases hd : d.down = true
    · rw [Dk.sync_down hd]
      refine (sync_no_r hM hd).mono ?_
      rintro e w' ⟨he, rfl⟩
      exact ⟨he, X, ha0, Turn.refl _ _, fun k hk => .inl hk⟩
    · have hf : d.down = false := by simpa using hd
      rw [show d.sync.1 = 0 by rw [Dk.sync_ok hf]]
      refine (sync_r hM hf hp).mono ?_
      rintro e w' ⟨he, ht, hm⟩
      exact ⟨he, ref_of hl xb xs hm (fun k hk => by simp [Value.ownBlock] at hk) (ht.sub (fun k hk => by rcases hk with rfl | hk; exact xb; exact xs k hk))⟩
theorem stop_rs (h : Sep B w0 w (RefD b d :: l)) (n : Int) (hn : n ≤ 9223372036854775807) : Calls Tryz.prog 22 #[ptr b, .int .i64 n] w fun e w' => e = .returned (.tuple #[]) ∧ Sep B w0 w' (RefD b (d.stop n) :: l) :=
  Calls.withRes h (good_ref _ _) fun X ha _ => by
    obtain ⟨⟨sv, wv, hM, xb, xs, xw⟩, hl⟩ := ha
    refine (stop_r hM n hn).mono ?_
    rintro e w' ⟨he, ho, hm⟩
    exact ⟨he, ref_of hl xb xs hm (fun k hk => .inl (xw k hk)) (ho.turn xb)⟩
/-- What the statement reads of the reference's disk by itself. -/
theorem Sep.ref (h : Sep B w0 w (RefD b d :: l)) : ∃ sv wv, RMem w b sv wv d := by
  obtain ⟨_, _, Y, ⟨_, X, _, ⟨⟨sv, wv, hM, _⟩, _⟩, _⟩, _⟩ := h; exact ⟨sv, wv, hM⟩

end
end

/-! PfRef -/
section
open Go.RowKit
set_option linter.unusedVariables false

def rfileO (c : Nat) : Obj := .cells #[ptr c] 37 (0, 0)
/-- The document's file. -/
def RFile (g c : Nat) (d : Dk) : Res := Both (RefD c d) (Blk g (rfileO c))

section
variable {B : Nat} {w0 w w' : World} {g c : Nat} {d d' : Dk} {l : List Res}
theorem Sep.rpart (h : Sep B w0 w (RFile g c d :: l)) : Sep B w0 w (RefD c d :: Blk g (rfileO c) :: l) := h.map fun _ => Hp.part (good_ref _ _) (good_blk _ _)
theorem Sep.rcell (h : Sep B w0 w (RFile g c d :: l)) : w.cell? ⟨g, 0, none⟩ = some (ptr c) ∧ g < w.heap.size := by
  have hb := h.rpart.up1.blk
  exact ⟨by simp [World.cell?, hb, rfileO], (Array.getElem?_eq_some_iff.1 hb).1⟩
theorem Sep.rsure (h : Sep B w0 w (RFile g c d :: l)) : ∃ ao cp, w.cell? ⟨c, 0, none⟩ = some (.slice ao d.sure.length cp) ∧ c < w.heap.size := by
  obtain ⟨sv, wv, hR⟩ := h.rpart.ref
  obtain ⟨ao, cp, es⟩ := hR.sv_slice
  exact ⟨ao, cp, by rw [hR.c0, es], hR.bl⟩
theorem Sep.rwait (h : Sep B w0 w (RFile g c d :: l)) : ∃ ao cp, w.cell? ⟨c, 1, none⟩ = some (.slice ao d.pend.length cp) ∧ c < w.heap.size := by
  obtain ⟨sv, wv, hR⟩ := h.rpart.ref
  obtain ⟨ao, cp, es⟩ := hR.wv_slice
  exact ⟨ao, cp, by rw [hR.c1, es], hR.bl⟩
theorem Sep.rok (h : Sep B w0 w (RFile g c d :: l)) : d.Ok := by
  obtain ⟨sv, wv, hR⟩ := h.rpart.ref
  exact hR.ok

set_option maxRecDepth 100000 in
set_option maxHeartbeats 1000000 in
theorem read_rf (h : Sep B w0 w (RFile g c d :: l)) (id : Int) (kind : UInt8) (hi : id ≤ 9223372036854775807) (hl : d.pend.length < 100000) :
    Calls Tryz.prog 49 #[ptr g, .int .i64 id, .int .u8 (kind.toNat : Int)] w fun e w' => e = .returned (.tuple #[.string (d.rd id kind).1.1, .int .i64 (d.rd id kind).1.2]) ∧ Sep B w0 w' (RFile g c (d.rd id kind).2 :: l) := by
  have HS : Hid (Sep B w0 w (RFile g c d :: l)) := h
  obtain ⟨c0, hg⟩ := h.rcell
  obtain ⟨ao, cp, c1, hc⟩ := h.rsure
  by_cases hp : hasP d id = false
  · have E : Hid (d.rd id kind = ((ByteArray.empty, 40), d)) := by show _ = _; unfold Dk.rd; rw [hp]; rfl
    rw [E.out]
    clear h
    by_cases h2 : id < 2
    · clear c0 hg c1 hc hp
      go_enter Tryz.func49, Tryz.ntmps49
      go_wp2
      go_ret2
      exact ⟨rfl, HS.out⟩
    · have h3 : (d.sure.length : Int) ≤ id := by unfold hasP at hp; simp at hp; omega
      generalize d.sure.length = L at *
      go_enter Tryz.func49, Tryz.ntmps49
      go_wp2
      go_ret2
      exact ⟨rfl, HS.out⟩
  · have hp1 : hasP d id = true := by simpa using hp
    obtain ⟨h2, h3⟩ := of_decide_eq_true hp1
    have CR0 := read_rs h.rpart id hl
    have hz := Dk.get_size h.rok id
    have E : d.rd id kind = (if (d.get id).1.2 = 0 then openE kind (opn id (d.get id).1.1.data.toList) else (ByteArray.empty, (d.get id).1.2), (d.get id).2) := by unfold Dk.rd; rw [hp1]; rfl
    rw [E]
    clear h hp hp1 E HS
    generalize d.sure.length = L at *
    generalize (d.get id).1.1 = s at *
    generalize (d.get id).1.2 = er at *
    generalize (d.get id).2 = d2 at *
    have CR : Hid _ := CR0
    clear CR0
    by_cases he : er = 0
    · subst he
      rw [if_pos rfl]
      have CO : Hid (∀ u, _) := fun u => refOpen_any id s u hi hz
      unfold rOpnB at CO
      rcases openE_cases kind id s.data.toList with ⟨h1, h2, h3⟩ | ⟨h1, h2, h3⟩ | ⟨h1, h2, h3⟩
      · rw [h2]
        rw [h3] at CO
        rw [show decide ((3 : Int) = 0) = false by decide] at CO
        clear h1 h2 h3
        go_enter Tryz.func49, Tryz.ntmps49
        go_wp2_with fail
        refine Calls.mono CR.out ?_
        rintro e w2 ⟨rfl, s2⟩
        have S2 : Hid (Sep B w0 w2 (RFile g c d2 :: l)) := s2.join
        have C3 : Hid _ := CO.out w2
        clear CR s2 CO
        go_wp2_with fail
        refine Calls.mono C3.out ?_
        rintro e w3 ⟨rfl, b3⟩
        have S3 : Hid (Sep B w0 w3 (RFile g c d2 :: l)) := S2.out.below b3
        clear b3 C3 S2
        go_wp2
        go_ret2
        exact ⟨rfl, S3.out⟩
      · rw [h3]
        have hne := kind_ne h2
        rw [decide_eq_true h1] at CO
        clear h1 h2 h3
        generalize (opn id s.data.toList).1.toNat = K at *
        generalize (opn id s.data.toList).2.1.toArray = bo at *
        go_enter Tryz.func49, Tryz.ntmps49
        go_wp2_with fail
        refine Calls.mono CR.out ?_
        rintro e w2 ⟨rfl, s2⟩
        have S2 : Hid (Sep B w0 w2 (RFile g c d2 :: l)) := s2.join
        have C3 : Hid _ := CO.out w2
        clear CR s2 CO
        go_wp2_with fail
        refine Calls.mono C3.out ?_
        rintro e w3 ⟨rfl, b3⟩
        have S3 : Hid (Sep B w0 w3 (RFile g c d2 :: l)) := S2.out.below b3
        clear b3 C3 S2
        go_wp2
        go_ret2
        exact ⟨rfl, S3.out⟩
      · rw [h3]
        rw [decide_eq_true h1, h2] at CO
        clear h1 h2 h3
        generalize (opn id s.data.toList).2.1.toArray = bo at *
        go_enter Tryz.func49, Tryz.ntmps49
        go_wp2_with fail
        refine Calls.mono CR.out ?_
        rintro e w2 ⟨rfl, s2⟩
        have S2 : Hid (Sep B w0 w2 (RFile g c d2 :: l)) := s2.join
        have C3 : Hid _ := CO.out w2
        clear CR s2 CO
        go_wp2_with fail
        refine Calls.mono C3.out ?_
        rintro e w3 ⟨rfl, b3⟩
        have S3 : Hid (Sep B w0 w3 (RFile g c d2 :: l)) := S2.out.below b3
        clear b3 C3 S2
        go_wp2
        go_ret2
        exact ⟨rfl, S3.out⟩
    · rw [if_neg he]
      have hne : (er != 0) = true := by rw [bne_iff_ne]; exact he
      clear he
      go_enter Tryz.func49, Tryz.ntmps49
      go_wp2_with fail
      refine Calls.mono CR.out ?_
      rintro e w2 ⟨rfl, s2⟩
      have S2 : Hid (Sep B w0 w2 (RFile g c d2 :: l)) := s2.join
      clear CR s2
      go_wp2
      go_ret2
      exact ⟨rfl, S2.out⟩

set_option maxRecDepth 100000 in
set_option maxHeartbeats 1000000 in
theorem put_rf (h : Sep B w0 w (RFile g c d :: l)) (id : Int) (kind : UInt8) (s : ByteArray) (hi : id ≤ 9223372036854775807) (hs : s.size ≤ maxLen) (hl : d.pend.length < 100000) :
    Calls Tryz.prog 51 #[ptr g, .int .i64 id, .int .u8 (kind.toNat : Int), .string s] w fun e w' => e = .returned (.int .i64 (d.wr id kind s).1) ∧ Sep B w0 w' (RFile g c (d.wr id kind s).2 :: l) := by
  have HS : Hid (Sep B w0 w (RFile g c d :: l)) := h
  obtain ⟨c0, hg⟩ := h.rcell
  obtain ⟨ao, cp, c1, hc⟩ := h.rsure
  by_cases hp : hasP d id = false
  · have E : Hid (d.wr id kind s = (40, d)) := by show _ = _; unfold Dk.wr; rw [hp]; rfl
    rw [E.out]
    clear h
    by_cases h2 : id < 2
    · clear c0 hg c1 hc hp
      go_enter Tryz.func51, Tryz.ntmps51
      go_wp2
      go_ret
      exact ⟨rfl, HS.out⟩
    · have h3 : (d.sure.length : Int) ≤ id := by unfold hasP at hp; simp at hp; omega
      generalize d.sure.length = L at *
      go_enter Tryz.func51, Tryz.ntmps51
      go_wp2
      go_ret
      exact ⟨rfl, HS.out⟩
  · have hp1 : hasP d id = true := by simpa using hp
    obtain ⟨h2, h3⟩ := of_decide_eq_true hp1
    have ES := sealE_page h.rok hp1 (n := s.size)
    have E : d.wr id kind s = if 240 < s.size then (50, d) else d.put id (pageS id kind s) := by unfold Dk.wr; rw [hp1]; rfl
    rw [E]
    have hsm := hs
    unfold maxLen at hsm
    clear h hp hp1 E
    by_cases h4 : 240 < s.size
    · rw [if_pos h4]
      generalize d.sure.length = L at *
      clear ES hl
      go_enter Tryz.func51, Tryz.ntmps51
      go_wp2
      go_ret
      exact ⟨rfl, HS.out⟩
    · rw [if_neg h4]
      have CS0 := refSeal_any id kind s w hi hs
      have e1 : sealS id kind s.data.toList = pageL id.toNat kind s.data.toList := by
        unfold sealS
        rw [show s.data.toList.length = s.size by simp, ES, if_neg h4, if_pos rfl]
      have e2 : rSealB id s.size = true := by unfold rSealB; rw [ES, if_neg h4]; rfl
      rw [e1, e2] at CS0
      have CS : Hid _ := CS0
      have CW : Hid (∀ u, Sep B w0 u (RFile g c d :: l) → Calls Tryz.prog 81 #[ptr c, .int .i64 id, .string (pageS id kind s)] u fun e w' => e = .returned (.int .i64 (d.put id (pageS id kind s)).1) ∧ Sep B w0 w' (RefD c (d.put id (pageS id kind s)).2 :: Blk g (rfileO c) :: l)) := fun u hu => put_rs hu.rpart id (pageS id kind s) (by rw [pageS_size _ _ _ (by omega)]; decide) hl
      unfold pageS at *
      generalize (pageL id.toNat kind s.data.toList).toArray = bo at *
      generalize (d.put id ⟨bo⟩).1 = er at *
      generalize (d.put id ⟨bo⟩).2 = d2 at *
      generalize d.sure.length = L at *
      clear CS0 ES e1 e2
      go_enter Tryz.func51, Tryz.ntmps51
      go_wp2_with fail
      refine Calls.mono CS.out ?_
      rintro e w2 ⟨rfl, b2⟩
      have S2 : Hid (Sep B w0 w2 (RFile g c d :: l)) := HS.out.below b2
      obtain ⟨c2, hg2⟩ := S2.out.rcell
      have C3 : Hid _ := CW.out w2 S2.out
      clear b2 CS CW
      go_wp2_with fail
      refine Calls.mono C3.out ?_
      rintro e w3 ⟨rfl, s3⟩
      have S3 : Hid (Sep B w0 w3 (RFile g c d2 :: l)) := s3.join
      clear C3 s3
      go_wp2
      go_ret
      exact ⟨rfl, S3.out⟩

/-- The reference's disk's own calls, where a file stands on it. -/
theorem sync_rf (h : Sep B w0 w (RFile g c d :: l)) (hp : d.pend.length < 100000) : Calls Tryz.prog 52 #[ptr c] w fun e w' => e = .returned (.int .i64 d.sync.1) ∧ Sep B w0 w' (RFile g c d.sync.2 :: l) := (sync_rs h.rpart hp).mono fun _ _ h => ⟨h.1, h.2.join⟩
theorem stop_rf (h : Sep B w0 w (RFile g c d :: l)) (n : Int) (hn : n ≤ 9223372036854775807) : Calls Tryz.prog 22 #[ptr c, .int .i64 n] w fun e w' => e = .returned (.tuple #[]) ∧ Sep B w0 w' (RFile g c (d.stop n) :: l) := (stop_rs h.rpart n hn).mono fun _ _ h => ⟨h.1, h.2.join⟩
theorem dput_rf (h : Sep B w0 w (RFile g c d :: l)) (i : Int) (s : ByteArray) (hs : s.size ≤ maxLen) (hp : d.pend.length < 100000) : Calls Tryz.prog 81 #[ptr c, .int .i64 i, .string s] w fun e w' => e = .returned (.int .i64 (d.put i s).1) ∧ Sep B w0 w' (RFile g c (d.put i s).2 :: l) := (put_rs h.rpart i s hs hp).mono fun _ _ h => ⟨h.1, h.2.join⟩

/-- A row of numbers of our own, as one that can be read. -/
theorem introw_of {v : Value} {keep : List Int} (h : Sep B w0 w (RowR 3 v (keep.map (Value.int .i64)) :: l)) : IntRow w v keep := by
  by_cases hk : keep = []
  · subst hk
    obtain ⟨ao, cp, e⟩ := h.shape
    exact ⟨ao, cp, e, fun hne => absurd rfl hne⟩
  · have hpos : 0 < keep.length := List.length_pos_iff.2 hk
    obtain ⟨r, cp, e, _, hr, _, _⟩ := h.cell (j := 0) (by simpa using hpos)
    refine ⟨some ⟨r, 0, none⟩, cp, by rw [e]; simp, fun _ => ⟨r, 0, rfl, hr, fun j hj => ?_⟩⟩
    obtain ⟨r2, cp2, e2, _, _, hc, _⟩ := h.cell (j := j) (by simpa using hj)
    rw [e] at e2
    cases e2
    rw [Nat.zero_add, hc]
    simp [List.getD_eq_getElem?_getD, hj]

end
end

end Go.Proofs.YtnngfkjbbedkpaaGreatDoor

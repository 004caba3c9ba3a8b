/-
  The walks of the document's Is and grow.
-/
import Derived.Test.YtnngfkjbbedkpaaGreatDoorAlRef
namespace Go.Proofs.YtnngfkjbbedkpaaGreatDoor
open Go.Shelf Go.RowKit Go.Lib Go.Sort
set_option linter.unusedVariables false

section
variable {ops : Array Oper} {rest : List Oper} {o : Oper} {a : Act} {Q : Exit → Act → World → Prop} {B : Nat} {w0 w : World} {l : List Res}
theorem app_bool (hgd : o.guard = .none) (s x : Operand) (ho : o.op = .call { callee := .builtin .append, args := #[s, x], argTypes := #[52, 52] }) (v : Value) (cs : List Value) (hs : a.eval s = v) (h : Sep B w0 w (RowR 4 v cs :: l))
    (r c : Nat) (t : Bool) (hx : a.eval x = .slice (some ⟨r, 0, none⟩) 1 c) (c0 : w.cell? ⟨r, 0, none⟩ = some (.bool t)) (hl : cs.length < 100000)
    (hK : ∀ ao n' c' w', Sep B w0 w' (RowR 4 (.slice ao n' c') (cs ++ [.bool t]) :: l) → wpList Tryz.prog ops Q rest (a.put o.dst (.slice ao n' c')) w') : wpList Tryz.prog ops Q (o :: rest) a w := by
  obtain ⟨i0, hi, hz0, hz1, hz2⟩ := info_parts infoBool
  refine wpList_append_own_at w hgd s x 52 ho 0 4 i0 _ 1 1 Tryz.underlying52 hi hz0 hz1 hz2 rfl (by decide) v cs.length cs hs h.row ⟨r, 0, none⟩ 1 c [.bool t] hx rfl (fun j u hj => ?_) (fun u hu => by simp at hu; subst hu; rfl) (by unfold maxLen; omega) (by omega) (Nat.zero_le _) ?_
  · match j, hj with
    | 0, hj => simp at hj; subst hj; exact c0
    | j + 1, hj => simp at hj
  · intro v' w' h2 h3 _ h5
    obtain ⟨ao, c', rfl⟩ := slice_of h2
    exact hK _ _ _ _ (h.appended h2 h3 h5)
theorem app_kind (hgd : o.guard = .none) (s x : Operand) (ho : o.op = .call { callee := .builtin .append, args := #[s, x], argTypes := #[53, 53] }) (v : Value) (cs : List Value) (hs : a.eval s = v) (h : Sep B w0 w (RowR 38 v cs :: l))
    (r c : Nat) (t : Int) (hx : a.eval x = .slice (some ⟨r, 0, none⟩) 1 c) (c0 : w.cell? ⟨r, 0, none⟩ = some (.int .u8 t)) (hl : cs.length < 100000)
    (hK : ∀ ao n' c' w', Sep B w0 w' (RowR 38 (.slice ao n' c') (cs ++ [.int .u8 t]) :: l) → wpList Tryz.prog ops Q rest (a.put o.dst (.slice ao n' c')) w') : wpList Tryz.prog ops Q (o :: rest) a w := by
  obtain ⟨i0, hi, hz0, hz1, hz2⟩ := info_parts infoKind
  refine wpList_append_own_at w hgd s x 53 ho 0 38 i0 _ 1 1 Tryz.underlying53 hi hz0 hz1 hz2 rfl (by decide) v cs.length cs hs h.row ⟨r, 0, none⟩ 1 c [.int .u8 t] hx rfl (fun j u hj => ?_) (fun u hu => by simp at hu; subst hu; rfl) (by unfold maxLen; omega) (by omega) (Nat.zero_le _) ?_
  · match j, hj with
    | 0, hj => simp at hj; subst hj; exact c0
    | j + 1, hj => simp at hj
  · intro v' w' h2 h3 _ h5
    obtain ⟨ao, c', rfl⟩ := slice_of h2
    exact hK _ _ _ _ (h.appended h2 h3 h5)
end

theorem cell_new {w : World} {n : Nat} (h : n = w.heap.size) (v : Value) (t : TypeId) : (w.alloc (.cells #[v] t)).cell? ⟨n, 0, none⟩ = some v := by subst h; simp

def RX.is (y : RX) (id : Int) : Bool := decide (0 ≤ id ∧ id < y.fresh.length) && bAt y.fresh id.toNat
section
variable {B : Nat} {w0 w : World} {l : List Res} {r g c : Nat} {y : RX} {d : Dk}
set_option maxRecDepth 100000 in
set_option maxHeartbeats 1000000 in
theorem ris (h : Sep B w0 w (RTx r g y :: l)) (id : Int) : Calls Tryz.prog 28 #[ptr r, .int .i64 id] w fun e w' => e = .returned (.bool (y.is id)) ∧ Below w.heap.size w w' := by
  obtain ⟨v1, v2, v3, v4, v5, ho⟩ := h.rtxOpen
  obtain ⟨hr, q0, q1, q2, q3, q4, q5, qf⟩ := rtx_cells ho
  unfold RX.is
  by_cases h0 : 0 ≤ id
  · by_cases h1 : id < y.fresh.length
    · obtain ⟨n, rfl⟩ : ∃ n : Nat, id = (n : Int) := ⟨id.toNat, by omega⟩
      have hn : n < y.fresh.length := by omega
      have e0 : decide ((0 : Int) ≤ (n : Int) ∧ (n : Int) < (y.fresh.length : Int)) = true := decide_eq_true ⟨h0, h1⟩
      rw [e0, Bool.true_and, Int.toNat_natCast]
      obtain ⟨r2, c2, e2, _, hr2, hcx, hfx⟩ := Sep.cell (j := n) ho.up2 (by simpa using hn)
      clear hcx hfx
      rw [List.length_map] at e2
      subst e2
      obtain ⟨k1, _⟩ := Sep.bool_at (tl := y.fresh) (i := n) ho.up2 hn
      have KQ : Hid (∀ nq, Below w.heap.size w (w.drewN nq)) := fun nq => ⟨rfl, rfl, rfl, Nat.le_refl _, fun _ _ => rfl⟩
      have KD : Hid (Below w.heap.size w w.drew) := (Below.refl _ w).drew
      generalize bAt y.fresh n = bb at *
      generalize y.fresh.length = L at *
      clear h ho qf
      go_enter Tryz.func28, Tryz.ntmps28
      go_wp2
      go_ret
      exact ⟨rfl, Below.refl _ _⟩
    · have e0 : decide ((0 : Int) ≤ id ∧ id < (y.fresh.length : Int)) = false := decide_eq_false (fun h => h1 h.2)
      rw [e0, Bool.false_and]
      obtain ⟨ao, cp, e2⟩ := Sep.shape ho.up2
      rw [List.length_map] at e2
      subst e2
      have KQ : Hid (∀ nq, Below w.heap.size w (w.drewN nq)) := fun nq => ⟨rfl, rfl, rfl, Nat.le_refl _, fun _ _ => rfl⟩
      generalize y.fresh.length = L at *
      clear h ho qf
      go_enter Tryz.func28, Tryz.ntmps28
      go_wp2
      go_ret
      exact ⟨rfl, Below.refl _ _⟩
  · have e0 : decide ((0 : Int) ≤ id ∧ id < (y.fresh.length : Int)) = false := decide_eq_false (fun h => h0 h.1)
    rw [e0, Bool.false_and]
    have KQ : Hid (∀ nq, Below w.heap.size w (w.drewN nq)) := fun nq => ⟨rfl, rfl, rfl, Nat.le_refl _, fun _ _ => rfl⟩
    clear h ho qf
    go_enter Tryz.func28, Tryz.ntmps28
    go_wp2
    go_ret
    exact ⟨rfl, Below.refl _ _⟩

def RX.grow (y : RX) (bb : Bool) : RX := ⟨y.free ++ [bb], y.fresh ++ [false], y.has ++ [false], y.kind ++ [0], y.body ++ [ByteArray.empty]⟩
structure RX.Len (y : RX) (n : Nat) : Prop where
  l1 : y.free.length = n
  l2 : y.fresh.length = n
  l3 : y.has.length = n
  l4 : y.kind.length = n
  l5 : y.body.length = n
theorem RX.Len.grow {y : RX} {n : Nat} (h : y.Len n) (bb : Bool) : (y.grow bb).Len (n + 1) := ⟨by simp [RX.grow, h.l1], by simp [RX.grow, h.l2], by simp [RX.grow, h.l3], by simp [RX.grow, h.l4], by simp [RX.grow, h.l5]⟩
set_option maxRecDepth 100000 in
set_option maxHeartbeats 2000000 in
theorem rgrow (h : Sep B w0 w (RTx r g y :: l)) (bb : Bool) {n : Nat} (hy : y.Len n) (hn : n ≤ 20000) : Calls Tryz.prog 43 #[ptr r, .bool bb] w fun e w' => e = .returned (.tuple #[]) ∧ Sep B w0 w' (RTx r g (y.grow bb) :: l) := by
  obtain ⟨v1, v2, v3, v4, v5, s0⟩ := h.rtxOpen
  have hl1 : (y.free.map Value.bool).length < 100000 := by rw [List.length_map, hy.l1]; omega
  have hl2 : (y.fresh.map Value.bool).length < 100000 := by rw [List.length_map, hy.l2]; omega
  have hl3 : (y.has.map Value.bool).length < 100000 := by rw [List.length_map, hy.l3]; omega
  have hl4 : (y.kind.map kdV).length < 100000 := by rw [List.length_map, hy.l4]; omega
  have hl5 : (y.body.map Value.string).length < 100000 := by rw [List.length_map, hy.l5]; omega
  obtain ⟨a1, c1, e1⟩ := Sep.shape s0.up1
  rw [List.length_map] at e1
  subst e1
  obtain ⟨a2, c2, e2⟩ := Sep.shape s0.up2
  rw [List.length_map] at e2
  subst e2
  obtain ⟨a3, c3, e3⟩ := Sep.shape s0.up3
  rw [List.length_map] at e3
  subst e3
  obtain ⟨a4, c4, e4⟩ := Sep.shape s0.up4
  rw [List.length_map] at e4
  subst e4
  obtain ⟨a5, c5, e5⟩ := Sep.shape s0.up5
  rw [List.length_map] at e5
  subst e5
  have S0 : Hid (Sep B w0 w (Blk r (rtxO g (.slice a1 y.free.length c1) (.slice a2 y.fresh.length c2) (.slice a3 y.has.length c3) (.slice a4 y.kind.length c4) (.slice a5 y.body.length c5)) :: RowR 4 (.slice a1 y.free.length c1) (y.free.map Value.bool) :: RowR 4 (.slice a2 y.fresh.length c2) (y.fresh.map Value.bool) :: RowR 4 (.slice a3 y.has.length c3) (y.has.map Value.bool) :: RowR 38 (.slice a4 y.kind.length c4) (y.kind.map kdV) :: RowR 9 (.slice a5 y.body.length c5) (y.body.map Value.string) :: l)) := s0
  obtain ⟨hr, q0, q1, q2, q3, q4, q5, qf⟩ := rtx_cells s0
  clear h s0
  go_enter Tryz.func43, Tryz.ntmps43
  go_wp2_with (at_builtin; refine app_bool rfl _ _ rfl _ _ rfl (S0.out.alloc _).up1 _ _ bb rfl (cell_new (by simp) _ _) hl1 ?_)
  intro x1 y1 z1 u1 t1
  have t1' := t1.up1
  obtain ⟨hr1, q0, q1, q2, q3, q4, q5, qf⟩ := rtx_cells t1'
  have f1 := qf 1
  have S1 : Hid (Sep B w0 (u1.setCell ⟨r, 1, none⟩ (.slice x1 y1 z1)) (Blk r (rtxO g (.slice x1 y1 z1) (.slice a2 y.fresh.length c2) (.slice a3 y.has.length c3) (.slice a4 y.kind.length c4) (.slice a5 y.body.length c5)) :: RowR 4 (.slice x1 y1 z1) (y.free.map Value.bool ++ [.bool bb]) :: RowR 4 (.slice a2 y.fresh.length c2) (y.fresh.map Value.bool) :: RowR 4 (.slice a3 y.has.length c3) (y.has.map Value.bool) :: RowR 38 (.slice a4 y.kind.length c4) (y.kind.map kdV) :: RowR 9 (.slice a5 y.body.length c5) (y.body.map Value.string) :: l)) := t1'.blkPut (i := 1) _
  clear t1 t1' S0 qf
  go_wp2_with (at_builtin; refine app_bool rfl _ _ rfl _ _ rfl (S1.out.alloc _).up2 _ _ false rfl (cell_new (by simp [World.setCell]) _ _) hl2 ?_)
  intro x2 y2 z2 u2 t2
  have t2' := t2.dn2
  obtain ⟨hr2, q0, q1, q2, q3, q4, q5, qf⟩ := rtx_cells t2'
  have f2 := qf 2
  have S2 : Hid (Sep B w0 (u2.setCell ⟨r, 2, none⟩ (.slice x2 y2 z2)) (Blk r (rtxO g (.slice x1 y1 z1) (.slice x2 y2 z2) (.slice a3 y.has.length c3) (.slice a4 y.kind.length c4) (.slice a5 y.body.length c5)) :: RowR 4 (.slice x1 y1 z1) (y.free.map Value.bool ++ [.bool bb]) :: RowR 4 (.slice x2 y2 z2) (y.fresh.map Value.bool ++ [.bool false]) :: RowR 4 (.slice a3 y.has.length c3) (y.has.map Value.bool) :: RowR 38 (.slice a4 y.kind.length c4) (y.kind.map kdV) :: RowR 9 (.slice a5 y.body.length c5) (y.body.map Value.string) :: l)) := t2'.blkPut (i := 2) _
  clear t2 t2' S1 qf
  go_wp2_with (at_builtin; refine app_bool rfl _ _ rfl _ _ rfl (S2.out.alloc _).up3 _ _ false rfl (cell_new (by simp [World.setCell]) _ _) hl3 ?_)
  intro x3 y3 z3 u3 t3
  have t3' := t3.dn3
  obtain ⟨hr3, q0, q1, q2, q3, q4, q5, qf⟩ := rtx_cells t3'
  have f3 := qf 3
  have S3 : Hid (Sep B w0 (u3.setCell ⟨r, 3, none⟩ (.slice x3 y3 z3)) (Blk r (rtxO g (.slice x1 y1 z1) (.slice x2 y2 z2) (.slice x3 y3 z3) (.slice a4 y.kind.length c4) (.slice a5 y.body.length c5)) :: RowR 4 (.slice x1 y1 z1) (y.free.map Value.bool ++ [.bool bb]) :: RowR 4 (.slice x2 y2 z2) (y.fresh.map Value.bool ++ [.bool false]) :: RowR 4 (.slice x3 y3 z3) (y.has.map Value.bool ++ [.bool false]) :: RowR 38 (.slice a4 y.kind.length c4) (y.kind.map kdV) :: RowR 9 (.slice a5 y.body.length c5) (y.body.map Value.string) :: l)) := t3'.blkPut (i := 3) _
  clear t3 t3' S2 qf
  go_wp2_with (at_builtin; refine app_kind rfl _ _ rfl _ _ rfl (S3.out.alloc _).up4 _ _ 0 rfl (cell_new (by simp [World.setCell]) _ _) hl4 ?_)
  intro x4 y4 z4 u4 t4
  have t4' := t4.dn4
  obtain ⟨hr4, q0, q1, q2, q3, q4, q5, qf⟩ := rtx_cells t4'
  have f4 := qf 4
  have S4 : Hid (Sep B w0 (u4.setCell ⟨r, 4, none⟩ (.slice x4 y4 z4)) (Blk r (rtxO g (.slice x1 y1 z1) (.slice x2 y2 z2) (.slice x3 y3 z3) (.slice x4 y4 z4) (.slice a5 y.body.length c5)) :: RowR 4 (.slice x1 y1 z1) (y.free.map Value.bool ++ [.bool bb]) :: RowR 4 (.slice x2 y2 z2) (y.fresh.map Value.bool ++ [.bool false]) :: RowR 4 (.slice x3 y3 z3) (y.has.map Value.bool ++ [.bool false]) :: RowR 38 (.slice x4 y4 z4) (y.kind.map kdV ++ [.int .u8 0]) :: RowR 9 (.slice a5 y.body.length c5) (y.body.map Value.string) :: l)) := t4'.blkPut (i := 4) _
  clear t4 t4' S3 qf
  go_wp2_with (at_builtin; refine app_str rfl _ _ rfl _ _ rfl (S4.out.alloc _).up5 _ _ ⟨#[]⟩ rfl (cell_new (by simp [World.setCell]) _ _) hl5 ?_)
  intro x5 y5 z5 u5 t5
  have t5' := t5.dn5
  obtain ⟨hr5, q0, q1, q2, q3, q4, q5, qf⟩ := rtx_cells t5'
  have f5 := qf 5
  have S5 : Hid (Sep B w0 (u5.setCell ⟨r, 5, none⟩ (.slice x5 y5 z5)) (Blk r (rtxO g (.slice x1 y1 z1) (.slice x2 y2 z2) (.slice x3 y3 z3) (.slice x4 y4 z4) (.slice x5 y5 z5)) :: RowR 4 (.slice x1 y1 z1) (y.free.map Value.bool ++ [.bool bb]) :: RowR 4 (.slice x2 y2 z2) (y.fresh.map Value.bool ++ [.bool false]) :: RowR 4 (.slice x3 y3 z3) (y.has.map Value.bool ++ [.bool false]) :: RowR 38 (.slice x4 y4 z4) (y.kind.map kdV ++ [.int .u8 0]) :: RowR 9 (.slice x5 y5 z5) (y.body.map Value.string ++ [.string ⟨#[]⟩]) :: l)) := t5'.blkPut (i := 5) _
  clear t5 t5' S4 qf
  go_wp2
  go_end0
  refine ⟨rfl, Sep.rtxShut (y := y.grow bb) (v1 := .slice x1 y1 z1) (v2 := .slice x2 y2 z2) (v3 := .slice x3 y3 z3) (v4 := .slice x4 y4 z4) (v5 := .slice x5 y5 z5) ?_⟩
  have := S5.out
  simp only [RX.grow, rL, List.map_append, List.map_cons, List.map_nil]
  exact this
end

end Go.Proofs.YtnngfkjbbedkpaaGreatDoor

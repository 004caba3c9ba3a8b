/-
  The walk of the document's Diff.
-/
import Derived.Test.YtifeeneojlhffaaRefOps2
import Derived.Test.YtifeeneojlhffaaApp
import Derived.Deep.RegionLaw
import Derived.Deep.AppendLies
namespace Go.Proofs.Ytifeeneojlhffaa
open Go.Shelf Go.RowKit Go.Lib Go.Sort

/-- One change appended to such a row, in a region that draws its order. -/
theorem step_change {ops : Array Oper} {o : Oper} {a : Act} {K : Act → World → Prop} {Q : Exit → Act → World → Prop} {E : Prop} {w : World} (hgd : o.guard = .none) (s x : Operand)
    (ho : o.op = .call { callee := .builtin .append, args := #[s, x], argTypes := #[40, 40] }) (base : Nat) (v : Value) (l : List Ch) (hs : a.eval s = v) (hown : OwnC base w v l)
    (b off c : Nat) (hx : a.eval x = .slice (some ⟨b, off, .none⟩) 1 c) (y : Ch) (c0 : w.cell? ⟨b, off, .none⟩ = some (.int .i64 y.1.1)) (c1 : w.cell? ⟨b, off + 1, .none⟩ = some (.int .i64 y.1.2)) (c2 : w.cell? ⟨b, off + 2, .none⟩ = some (.bool y.2)) (hl : l.length + 1 < 1000000) (hbase : base ≤ w.heap.size) (ly : List Ch) (hly : l ++ [y] = ly)
    (h : ∀ ao n c w', OwnC base w' (.slice ao n c) ly → (∀ w0, Below base w0 w → Below base w0 w') → K (a.put o.dst (.slice ao n c)) w') : if Region.wanted o (yielded ops a.tmps) = true then Oper.wp Try.prog o a w K Q else E := by
  obtain ⟨i0, hi, hz0, hz1, hz2⟩ := info_parts infoChange
  refine step_append_lies w hgd s x 40 ho base 50 i0 _ 3 24 Try.underlying40 hi hz0 hz1 hz2 rfl (by decide) v _ _ hs hown ⟨b, off, .none⟩ 1 c (encC y) hx rfl ?_ (encC_one y) (by decide) (by unfold maxLen; omega) (by omega) hbase _ rfl ?_
  · intro j u hj
    simp only [encC] at hj
    match j, hj with
    | 0, hj => simp at hj; subst hj; simpa [Addr.add] using c0
    | 1, hj => simp at hj; subst hj; simpa [Addr.add] using c1
    | 2, hj => simp at hj; subst hj; simpa [Addr.add] using c2
  · intro g cap w' g1 g2 _ _
    refine h _ _ _ _ ?_ (fun w0 hb => hb.grown g2 hbase fun k hk => ?_)
    · subst hly
      show w'.ownsRow base 50 3 _ (l ++ [y]).length (flatK encC 3 (l ++ [y]).toArray).toList
      rw [List.length_append, List.length_singleton, flatK_snoc encC 3 encC_len]
      exact g1
    · rcases row_of_owns hown with hr | ⟨r, hr, hle⟩
      · rw [hr] at hk; cases hk
      · rw [hr] at hk; cases hk; exact hle

set_option maxHeartbeats 16000000 in
set_option maxRecDepth 100000 in
theorem rdiff_any (va vb : Value) (a b : List Pr) (w : World) (ha : Row encP 2 w va a) (hb : Row encP 2 w vb b) (hl : a.length ≤ 10000) (hl2 : b.length ≤ 10000) :
    Calls Try.prog 25 #[va, vb] w fun e w' => ∃ v' d, e = .returned v' ∧ Own encC 3 w.heap.size w' v' d ∧ diffOf a b d ∧ Below w.heap.size w w' := by
  have HM : Hid _ := rminus_any va vb a b w ha hb (by omega) (by omega)
  have RA : Hid (Row encP 2 w va a) := ha
  have RB : Hid (Row encP 2 w vb b) := hb
  obtain ⟨aoa, ca, rfl, _⟩ := id ha
  obtain ⟨aob, cb, rfl, _⟩ := id hb
  clear ha hb
  go_enter Try.func25, Try.ntmps25
  go_wp2_with fail
  refine Calls.mono HM.out ?_
  rintro e w1 ⟨v1, m1, rfl, o1, hm1, l1, b1⟩
  have R1 : Hid (Row encP 2 w1 v1 m1) := o1.row
  have HM1 : Hid (minusOf a b m1) := hm1
  have B1 : Hid (Below w.heap.size w w1) := b1
  have z1 : w.heap.size ≤ w1.heap.size := b1.size
  obtain ⟨x1, y1, rfl, _⟩ := id o1
  clear o1 hm1 b1 HM
  go_wp2_with (at_builtin; refine app_rowP rfl _ _ rfl w1.heap.size _ [] rfl (OwnP.empty _ _) _ m1 rfl R1.out (by simp only [List.length_nil]; omega) (Nat.le_refl _) m1 (List.nil_append m1) ?_)
  intro ax nx cx w2 HO2 HB2
  have OX2 : Aside (OwnP w1.heap.size w2 (.slice ax nx cx) m1) := HO2
  have K2 : Hid (Below w1.heap.size w1 w2) := HB2 _ (Below.refl _ _)
  have B2 : Hid (Below w.heap.size w w2) := B1.out.trans (K2.out.mono z1)
  have HM2 : Hid _ := rminus_any _ _ b a w2 (RB.out.below B2.out) (RA.out.below B2.out) (by omega) (by omega)
  clear HO2 HB2 R1
  go_wp2_with fail
  refine Calls.mono HM2.out ?_
  rintro e w3 ⟨v3, m3, rfl, o3, hm3, l3, b3⟩
  have OX3 : Aside (OwnP w1.heap.size w3 (.slice ax nx cx) m1) := ownsRow_below OX2.out b3
  have K3 : Hid (Below w1.heap.size w1 w3) := K2.out.trans (b3.mono K2.out.size)
  have R3 : Hid (Row encP 2 w3 v3 m3) := o3.row
  have HM3 : Hid (minusOf b a m3) := hm3
  obtain ⟨x3, y3, rfl, _⟩ := id o3
  obtain ⟨L, hL⟩ : ∃ L, m1 ++ m3 = L := ⟨_, rfl⟩
  have HL : Hid (m1 ++ m3 = L) := hL
  have lL : L.length ≤ m1.length + m3.length := Nat.le_of_eq (by rw [← hL, List.length_append])
  clear o3 hm3 b3 HM2 OX2 K2 B2 hL
  go_wp2_with (at_builtin; refine app_rowP rfl _ _ rfl w1.heap.size _ m1 rfl OX3.out _ m3 rfl R3.out (by omega) K3.out.size L HL.out ?_)
  intro ax4 nx4 cx4 w4 HO4 HB4
  have K4 : Hid (Below w1.heap.size w1 w4) := HB4 _ K3.out
  have oL : Own encP 2 w1.heap.size w4 (.slice ax4 nx4 cx4) L := OwnP.own HO4
  have HS : Hid _ := rsort_any _ L w4 oL.row (by omega)
  obtain ⟨xL, yL, ezL, _⟩ := id oL
  cases ezL
  have B4 : Hid (Below w.heap.size w w4) := B1.out.trans (K4.out.mono z1)
  have z4 : w.heap.size ≤ w4.heap.size := B4.out.size
  clear HO4 HB4 oL OX3 K3 R3 K4
  go_wp2_with fail
  refine Calls.mono HS.out ?_
  rintro e w5 ⟨v5, rfl, o5, b5⟩
  have B5 : Hid (Below w.heap.size w w5) := B4.out.trans (b5.mono z4)
  have z5 : w.heap.size ≤ w5.heap.size := B5.out.size
  have RB5 : Aside (Row encP 2 w5 (.slice aob b.length cb) b) := RB.out.below B5.out
  have SP3 := (sortL_spec L).2.2
  have HD : Hid (diffOf a b ((sortL L).map fun x => (x, decide (x ∈ b)))) := by rw [← HL.out]; exact refDiff_spec HM1.out.2 HM3.out.2
  obtain ⟨ao, cap, rfl, h1, h2, h3⟩ := o5.row
  generalize sortL L = s at *
  have H3 : Aside (s ≠ [] → ∃ b off, ao = some ⟨b, off, none⟩ ∧ b < w5.heap.size ∧ CellsK encP 2 w5 b off s) := h3
  clear h3 o5 b5 HS B4 HM1 HM3 RA RB HL B1
  go_wp2
  go_loopg [7, 8] s.length (fun kx s7 s8 wr => ∃ (i : Nat) (ao' : Option Addr) (n' c' : Nat), s7 = .slice ao' n' c' ∧ s8 = .int .i64 i ∧ i ≤ s.length ∧ s.length - i ≤ kx ∧ Aside (OwnC w5.heap.size wr (.slice ao' n' c') ((s.take i).map fun x => (x, decide (x ∈ b)))) ∧ Hid (Below w5.heap.size w5 wr))
  case atStart => exact ⟨0, none, 0, 0, rfl, rfl, Nat.zero_le _, Nat.le_refl _, OwnC.empty _ _, Below.refl _ _⟩
  case round =>
    obtain ⟨i, ao', n', c', rfl, rfl, hi, hki, HO, HB⟩ := hrel
    have hsz : w5.heap.size ≤ wr.heap.size := HB.out.size
    by_cases hil : i < s.length
    · have hilz : (i : Int) < (s.length : Int) := by omega
      obtain ⟨bk, off, rfl, hbk, x1, x2⟩ := row_at H3.out i hil HB.out
      have T : Hid (s.take (i + 1) = s.take i ++ [s[i]!]) := take_next hil
      have LL : ((s.take i).map fun x => (x, decide (x ∈ b))).length ≤ 40000 := by simp; omega
      generalize s[i]! = x at *
      have HC0 := has_any _ b x wr.drew (RB5.out.below (HB.out.drew)) (by omega)
      obtain ⟨f, hf⟩ : ∃ f, decide (x ∈ b) = f := ⟨_, rfl⟩
      have T2 : Hid (((s.take i).map fun x => (x, decide (x ∈ b))) ++ [(x, f)] = (s.take (i + 1)).map fun x => (x, decide (x ∈ b))) := by rw [T.out]; simp [Hid, hf]
      rw [hf] at HC0
      generalize ((s.take i).map fun x => (x, decide (x ∈ b))) = l at *
      obtain ⟨l2, hl2⟩ : ∃ l2, ((s.take (i + 1)).map fun x => (x, decide (x ∈ b))) = l2 := ⟨_, rfl⟩
      have HL2 : Hid (((s.take (i + 1)).map fun x => (x, decide (x ∈ b))) = l2) := hl2
      rw [hl2] at T2
      clear hl2
      have HD1 : Aside (OwnC w5.heap.size wr.drew (.slice ao' n' c') l) := by have := ownsRow_grown HO.out 1 #[]; rw [grow_empty] at this; exact this
      have HC : Hid (Calls Try.prog 42 #[.slice aob b.length cb, .agg #[.int .i64 x.1, .int .i64 x.2]] wr.drew fun e w' => e = .returned (.bool f) ∧ w'.cell? ⟨bk, off + i * 2, none⟩ = some (.int .i64 x.1) ∧ w'.cell? ⟨bk, off + i * 2 + 1, none⟩ = some (.int .i64 x.2) ∧ w5.heap.size ≤ w'.heap.size ∧ Aside (OwnC w5.heap.size w' (.slice ao' n' c') l) ∧ Hid (Below w5.heap.size w5 w')) := HC0.mono fun e w' h => by
        obtain ⟨h1, q, os, rfl⟩ := h
        refine ⟨h1, cell_grown (w := wr.drew) (by simp; omega) x1 q os, cell_grown (w := wr.drew) (by simp; omega) x2 q os, ?_, ownsRow_grown (W := wr.drew) HD1.out q os, below_grown (W := wr.drew) HB.out.drew hsz q os⟩
        exact (below_grown (W := wr.drew) HB.out.drew hsz q os).size
      clear HC0 hf HO HB T HD1
      go_wp2_with fail
      go_region_law (first | (refine step_change rfl _ _ rfl w5.heap.size _ l rfl (World.ownsRow.alloc g4.out _) w6.heap.size 0 1 rfl (x, f) (by simp) (by simp) (by simp) (by omega) (by simp; omega) l2 T2.out ?_; intro ao2 n2 c2 w7 HO7 HB7) | (go_simp; refine Calls.mono HC.out ?_; rintro e w6 ⟨rfl, g1, g2, g3, g4, g5⟩; dsimp only))
      all_goals
        have HO8 : Aside (OwnC w5.heap.size w7 (.slice ao2 n2 c2) l2) := HO7
        have HB8 : Hid (Below w5.heap.size w5 w7) := HB7 _ (g5.out.alloc g3 _)
        clear HO7 HB7 g1 g2 g3 g4 g5 HC
        go_wp2
        go_roundg (s.length - (i + 1))
      all_goals first
        | omega
        | (refine ⟨i + 1, ao2, n2, c2, rfl, by go_num, by omega, Nat.le_refl _, ?_, HB8⟩; rw [HL2.out]; exact HO8)
    · have hilz : ¬ (i : Int) < (s.length : Int) := by omega
      obtain rfl : i = s.length := by omega
      rw [List.take_length] at HO
      go_wp2
      go_ret
      exact ⟨_, rfl, _, Own.mono HO.out.own (by omega), HD.out, B5.out.trans (HB.out.mono z5)⟩

end Go.Proofs.Ytifeeneojlhffaa

/-
  The walk of package runs' List.
-/
import Derived.Test.YtoigljefajbofaaRnFirst
namespace Go.Proofs.Ytoigljefajbofaa
open Go.Shelf Go.RowKit Go.Lib Go.Sort

attribute [local go_sem] Oper.semAt_some

theorem infoInt : (Try.prog.info? 3).map (fun i => (i.zero, i.size, i.bytes)) = some (some (.int .i64 0), 1, 8) := by kernel_rfl

/-- A row of numbers of the call's own. -/
abbrev OwnI (base : Nat) (W : World) (v : Value) (l : List Int) : Prop := W.ownsRow base 3 1 v l.length (l.map (Value.int .i64))

theorem KpR.appended {W w1 : World} {B base k : Nat} {v v' : Value} {xs : List Value} {tmp : Obj} (hv : Boxed W B 36 v) (hrow : W.ownsRow base 3 1 v k xs) (hgrow : (W.alloc tmp).grownBy w1 v.ownBlock) (hv1 : Boxed w1 B 36 v) : KpR W (w1.setCell ⟨B, 0, none⟩ v') := by
  refine ((KpR.alloc W tmp).t (KpR.grown hgrow fun j cs fr e k => ?_)).t (KpR.setBox hv1 (by decide) v')
  rcases (hrow.alloc tmp).2 with ⟨rfl, _⟩ | ⟨g, cap, cur, rfl, _, hgb, _⟩
  · simp [Value.ownBlock] at e
  · obtain rfl : g = j := by simpa [Value.ownBlock] using e
    rw [hgb] at k
    cases k

theorem ownsRow_mono {W : World} {base base' : Nat} {e : TypeId} {k : Nat} {v : Value} {n : Nat} {xs : List Value} (h : W.ownsRow base e k v n xs) (hb : base' ≤ base) : W.ownsRow base' e k v n xs := by
  refine ⟨h.1, ?_⟩
  rcases h.2 with h2 | ⟨g, cap, cur, hv, hg, r⟩
  · exact Or.inl h2
  · exact Or.inr ⟨g, cap, cur, hv, Nat.le_trans hb hg, r⟩

theorem own_ne {W : World} {base : Nat} {e : TypeId} {k : Nat} {v : Value} {n : Nat} {xs : List Value} (h : W.ownsRow base e k v n xs) {j : Nat} (hj : j < base) : some j ≠ v.ownBlock := by
  rcases h.2 with ⟨rfl, _⟩ | ⟨g, cap, cur, rfl, hg, _⟩
  · simp [Value.ownBlock]
  · simp only [Value.ownBlock, ne_eq, Option.some.injEq]
    omega

set_option maxRecDepth 100000 in
set_option maxHeartbeats 4000000 in
theorem list_any (v : Value) (l : List Pr) (most : Int) (w : World) (h : Row encP 2 w v l) (hl : l.length ≤ 100000) :
    Calls Try.prog 24 #[v, .int .i64 most] w fun e w' => ∃ v', e = .returned v' ∧ OwnI w.heap.size w' v' ((numsL (nmL l)).take most.toNat) ∧ Below w.heap.size w w' := by
  obtain ⟨i0, hi, hz0, hz1, hz2⟩ := info_parts infoInt
  have B0 : Hid (Below w.heap.size w ((w.alloc (.cells #[.int .i64 most] 3)).alloc (.cells #[.slice none 0 0] 36))) := ((Below.refl _ w).alloc (Nat.le_refl _) _).alloc (by simp) _
  have hz : ((w.alloc (.cells #[.int .i64 most] 3)).alloc (.cells #[.slice none 0 0] 36)).heap.size = w.heap.size + 2 := by simp
  have x0 : Boxed ((w.alloc (.cells #[.int .i64 most] 3)).alloc (.cells #[.slice none 0 0] 36)) w.heap.size 3 (.int .i64 most) := (Boxed.new w 3 (.int .i64 most)).alloc _
  have x1 : Boxed ((w.alloc (.cells #[.int .i64 most] 3)).alloc (.cells #[.slice none 0 0] 36)) (w.heap.size + 1) 36 (.slice none 0 0) := by have := Boxed.new (w.alloc (.cells #[.int .i64 most] 3)) 36 (.slice none 0 0); rw [World.size_alloc] at this; exact this
  have C : Hid (Calls Try.prog 25 #[v] ((w.alloc (.cells #[.int .i64 most] 3)).alloc (.cells #[.slice none 0 0] 36)) fun e w' => ∃ Bs sv, e = .returned (.func (.func 35) #[] #[.pointer (some ⟨Bs, 0, none⟩)]) ∧ w.heap.size + 2 ≤ Bs ∧ Boxed w' Bs 22 sv ∧ OwnP (w.heap.size + 2) w' sv (nmL l) ∧ Below (w.heap.size + 2) ((w.alloc (.cells #[.int .i64 most] 3)).alloc (.cells #[.slice none 0 0] 36)) w') := by
    have := all_any v l ((w.alloc (.cells #[.int .i64 most] 3)).alloc (.cells #[.slice none 0 0] 36)) (h.below B0.out) hl
    rw [hz] at this
    exact this
  have hl2 := nmL_length l
  have HC : Hid (Cn (nmL l)) := nmL_cn l
  obtain ⟨aa, ca, rfl, _⟩ := h
  generalize nmL l = s at *
  have hN : (numsL s).length ≤ 4294967296 := by have := numsL_length s HC.out; have := cnt_le HC.out; omega
  refine (callsIn_wide (n := 5)).1 ?_
  refine callsIn_of_wp_marks Try.func24 rfl trivial ?_ rfl
  simp only [Try.ntmps24, List.size_toArray, List.length_cons, List.length_nil, Nat.reduceAdd, Nat.reduceSub, Array.replicate_succ, Array.replicate_zero, List.push_toArray, List.append_toArray, List.nil_append, List.cons_append]
  gi_wp2_with fail
  refine ⟨trivial, (callsIn_wide.2 C.out).mono ?_⟩
  rintro e w1 ⟨Bs, sv, rfl, hBs, hbx, ho, hb⟩
  gi_wp2
  have y0 : Boxed w1 w.heap.size 3 (.int .i64 most) := (hb.block _ (by omega)).trans x0
  have y1 : Boxed w1 (w.heap.size + 1) 36 (.slice none 0 0) := (hb.block _ (by omega)).trans x1
  have BW : Below w.heap.size w w1 := B0.out.trans (hb.mono (by omega))
  have hsz := hb.size
  refine wpIn_rangeFunc_ownG rfl (by decide) (gf := 35) (lb := #[.pointer (some ⟨Bs, 0, none⟩)]) rfl trivial (enters_of Try.func35 (by kernel_rfl) rfl)
    (all_stops 4 Bs sv s HC.out (by omega) (by decide) w1 hbx _ ho) KpR.t (KpR.b (w := w1)) (Below.refl _ _) (fun _ => rfl)
    (fun pre W => ((∃ v, Boxed W (w.heap.size + 1) 36 v ∧ W.ownsRow (w.heap.size + 2) 3 1 v pre.length (pre.map (Value.int .i64)) ∧ True) ∧ (Boxed W w.heap.size 3 (.int .i64 most) ∧ (pre.length : Int) ≤ max most 0)) ∧ Below w.heap.size w W)
    (fun c pre W => ((∃ v, Boxed W (w.heap.size + 1) 36 v ∧ W.ownsRow (w.heap.size + 2) 3 1 v pre.dropLast.length (pre.dropLast.map (Value.int .i64)) ∧ True) ∧ (c = .exit 0 ∧ pre ≠ [] ∧ most ≤ (pre.dropLast.length : Int) ∧ (pre.dropLast.length : Int) ≤ max most 0)) ∧ Below w.heap.size w W)
    (OwnFrom.and (OwnFrom.and (Own.from (holdsRow_own (w.heap.size + 2) (w.heap.size + 1) 36 3 1 (fun pre : List Int => pre.length) (fun pre : List Int => pre.map (Value.int .i64)) (fun _ _ => True)) _) (Own.from (fun s A B row hs hg hr => ⟨boxed_own _ _ (fun _ : Unit => _) () A B row hs.1 hg hr, hs.2⟩) _)) (ownFrom_below (Nat.le_refl _) BW.size))
    (fun c => OwnFrom.and (OwnFrom.and (Own.from (holdsRow_own (w.heap.size + 2) (w.heap.size + 1) 36 3 1 (fun pre : List Int => pre.dropLast.length) (fun pre : List Int => pre.dropLast.map (Value.int .i64)) (fun _ _ => True)) _) (ownFrom_pure _ _)) (ownFrom_below (Nat.le_refl _) BW.size))
    ⟨⟨⟨_, y1, World.ownsRow_nil _ _ _ _, trivial⟩, y0, by simp; omega⟩, BW⟩
    (fun x => { tmps := #[.slice aa l.length ca, .int .i64 most, undef, .pointer (some ⟨w.heap.size, 0, none⟩), .slice none 0 0, .pointer (some ⟨w.heap.size + 1, 0, none⟩), .int .i64 x, .slice aa l.length ca, .func (.func 35) #[] #[.pointer (some ⟨Bs, 0, none⟩)], .int .i64 x, undef, undef, undef, undef, undef, undef, undef, undef, undef], defers := [] }) ?assign ?body ?done ?stop
  case assign =>
    intro l x W K hK
    gi_wp2
    exact hK
  case body =>
    rintro l pre x W ⟨⟨⟨v, hv, hrow, _⟩, bm, hpl⟩, hB⟩ hlt
    have hc := hv.cell
    have hm := bm.cell
    obtain ⟨ao, nn, cc, rfl, rfl⟩ : ∃ ao n c, v = .slice ao n c ∧ n = pre.length := by
      rcases hrow.2 with ⟨rfl, e⟩ | ⟨g, cap, cur, rfl, _⟩
      · exact ⟨_, _, _, rfl, e.symm⟩
      · exact ⟨_, _, _, rfl, rfl⟩
    by_cases hge : most ≤ (pre.length : Int)
    · gi_wp2
      refine ⟨KeepsFrom.refl _ _, ⟨⟨_, hv, ?_, trivial⟩, rfl, by simp, by simpa using hge, by simpa using hpl⟩, hB⟩
      rw [List.dropLast_concat]
      exact hrow
    · gi_wp2_with (gi_at_builtin; refine wpListIn_append_own _ rfl _ _ 36 rfl (w.heap.size + 2) 3 i0 (.int .i64 0) 1 8 Try.underlying36 hi hz0 hz1 hz2 rfl (by decide) _ _ _ rfl (hrow.alloc _) ⟨W.heap.size, 0, none⟩ 1 1 [.int .i64 x] rfl rfl (cell_one_new _ _ _) (by simp [Value.oneCell']) (by unfold maxLen; omega) (by omega) (by have := hv.lt; simp; omega) ?_; intro v' w1 hown' hgrow _; obtain ⟨g', cap', rfl⟩ := ownsRow_succ hown'; obtain ⟨hv1, hv2, _, hk2, hb2⟩ := hv.appended (by decide) (ownsRow_mono hrow (by omega)) hB.size (by omega) (ownsRow_mono hown' (by omega)) hgrow; have hr2 := hown'.kept (grownBy_setCell' w1 (w.heap.size + 1) (.slice (some ⟨g', 0, none⟩) (pre.length + 1) cap')) (.inr (hv1.not_row (by decide) hown').symm); have bm2 : Boxed (w1.setCell ⟨w.heap.size + 1, 0, none⟩ (.slice (some ⟨g', 0, none⟩) (pre.length + 1) cap')) w.heap.size 3 (.int .i64 most) := ((bm.alloc _).kept hgrow (own_ne hrow (by omega))).other (by omega) _; have hc1 := hv1.cell; have hf1 := hv1.frozen)
      exact ⟨hk2.from _, KpR.appended hv hrow hgrow hv1, ⟨⟨_, hv2, by simpa using hr2⟩, bm2, by simp; omega⟩, hB.trans hb2⟩
  case done =>
    rintro D ys W hD rfl ⟨⟨⟨v, hv, hrow, _⟩, _, hpl⟩, hB⟩ hK
    have hc := hv.cell
    gi_wp2
    refine ⟨by simp, .inl ⟨_, _, rfl, run_takeDeferred hK, ?_⟩⟩
    refine ⟨_, results_tmp rfl _ _ _, v, rfl, ?_, hB.trans (belowK_b (w := w) (Nat.le_refl _) W D _ _ (by omega) hK rfl rfl)⟩
    rw [List.take_of_length_le (by omega)]
    exact ownsRow_mono (ownsRow_putObj hrow _ hK rfl) (by omega)
  case stop =>
    rintro D c pre W hD hpre ⟨⟨⟨v, hv, hrow, _⟩, rfl, hne, h1, h2⟩, hB⟩ hK
    have hc := hv.cell
    gi_wp2
    refine ⟨by simp, .inl ⟨_, _, rfl, run_takeDeferred hK, ?_⟩⟩
    refine ⟨_, results_tmp rfl _ _ _, v, rfl, ?_, hB.trans (belowK_b (w := w) (Nat.le_refl _) W D _ _ (by omega) hK rfl rfl)⟩
    have e : (numsL s).take most.toNat = pre.dropLast := by
      have hd : pre.dropLast <+: numsL s := (List.dropLast_prefix pre).trans hpre
      have hn : pre.dropLast.length = most.toNat := by omega
      rw [← hn]
      exact (List.prefix_iff_eq_take.1 hd).symm
    rw [e]
    exact ownsRow_mono (ownsRow_putObj hrow _ hK rfl) (by omega)

end Go.Proofs.Ytoigljefajbofaa

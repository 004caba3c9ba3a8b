/-
  The walks of package runs' All and First.
-/
import Derived.Test.YtoigljefajbofaaRnAll
import Derived.Test.YtoigljefajbofaaRnNorm2
namespace Go.Proofs.Ytoigljefajbofaa
open Go.Shelf Go.RowKit Go.Lib Go.Sort

attribute [local go_sem] Oper.semAt_some

set_option maxHeartbeats 1000000 in
theorem all_any (v : Value) (l : List Pr) (w : World) (h : Row encP 2 w v l) (hl : l.length ≤ 100000) :
    Calls Try.prog 25 #[v] w fun e w' => ∃ Bs sv, e = .returned (.func (.func 35) #[] #[.pointer (some ⟨Bs, 0, none⟩)]) ∧ w.heap.size ≤ Bs ∧ Boxed w' Bs 22 sv ∧ OwnP w.heap.size w' sv (nmL l) ∧ Below w.heap.size w w' := by
  have C : Hid (Calls Try.prog 11 #[v] w fun e w' => ∃ v', e = .returned v' ∧ OwnP w.heap.size w' v' (nmL l) ∧ Below w.heap.size w w') := norm_own v l w h hl
  obtain ⟨aa, ca, rfl, _⟩ := h
  go_enter Try.func25, Try.ntmps25
  go_wp2_with fail
  refine Calls.mono C.out ?_
  rintro e w1 ⟨v1, rfl, ho, hb⟩
  have HO : Aside (OwnP w.heap.size w1 v1 (nmL l)) := ho
  have HB : Hid (Below w.heap.size w w1) := hb
  obtain ⟨a1, c1, rfl, _⟩ := ho.own
  clear ho hb C
  go_wp2
  go_ret
  exact ⟨_, _, rfl, HB.out.size, Boxed.new _ _ _, HO.out.alloc _, HB.out.alloc HB.out.size _⟩

set_option maxRecDepth 100000 in
set_option maxHeartbeats 2000000 in
theorem first_any (v : Value) (l : List Pr) (w : World) (h : Row encP 2 w v l) (hl : l.length ≤ 100000) :
    Calls Try.prog 19 #[v] w fun e w' => e = .returned (.tuple #[.int .i64 (fstN (nmL l)), .bool (fstB (nmL l))]) ∧ Below w.heap.size w w' := by
  have B0 : Hid (Below w.heap.size w ((w.alloc (.cells #[.int .i64 0] 3)).alloc (.cells #[.bool false] 4))) := ((Below.refl _ w).alloc (Nat.le_refl _) _).alloc (by simp) _
  have hz : ((w.alloc (.cells #[.int .i64 0] 3)).alloc (.cells #[.bool false] 4)).heap.size = w.heap.size + 2 := by simp
  have x0 : Boxed ((w.alloc (.cells #[.int .i64 0] 3)).alloc (.cells #[.bool false] 4)) w.heap.size 3 (.int .i64 0) := (Boxed.new w 3 (.int .i64 0)).alloc _
  have x1 : Boxed ((w.alloc (.cells #[.int .i64 0] 3)).alloc (.cells #[.bool false] 4)) (w.heap.size + 1) 4 (.bool false) := by have := Boxed.new (w.alloc (.cells #[.int .i64 0] 3)) 4 (.bool false); rw [World.size_alloc] at this; exact this
  have C : Hid (Calls Try.prog 25 #[v] ((w.alloc (.cells #[.int .i64 0] 3)).alloc (.cells #[.bool false] 4)) fun e w' => ∃ Bs sv, e = .returned (.func (.func 35) #[] #[.pointer (some ⟨Bs, 0, none⟩)]) ∧ w.heap.size + 2 ≤ Bs ∧ Boxed w' Bs 22 sv ∧ OwnP (w.heap.size + 2) w' sv (nmL l) ∧ Below (w.heap.size + 2) ((w.alloc (.cells #[.int .i64 0] 3)).alloc (.cells #[.bool false] 4)) w') := by
    have := all_any v l ((w.alloc (.cells #[.int .i64 0] 3)).alloc (.cells #[.bool false] 4)) (h.below B0.out) hl
    rw [hz] at this
    exact this
  have hl2 := nmL_length l
  have HC : Hid (Cn (nmL l)) := nmL_cn l
  obtain ⟨aa, ca, rfl, _⟩ := h
  generalize nmL l = s at *
  refine (callsIn_wide (n := 5)).1 ?_
  refine callsIn_of_wp_marks Try.func19 rfl trivial ?_ rfl
  simp only [Try.ntmps19, List.size_toArray, List.length_cons, List.length_nil, Nat.reduceAdd, Nat.reduceSub, Array.replicate_succ, Array.replicate_zero, List.push_toArray, List.append_toArray, List.nil_append, List.cons_append]
  gi_wp2_with fail
  refine ⟨trivial, (callsIn_wide.2 C.out).mono ?_⟩
  rintro e w1 ⟨Bs, sv, rfl, hBs, hbx, ho, hb⟩
  gi_wp2
  have y0 : Boxed w1 w.heap.size 3 (.int .i64 0) := (hb.block _ (by omega)).trans x0
  have y1 : Boxed w1 (w.heap.size + 1) 4 (.bool false) := (hb.block _ (by omega)).trans x1
  have BW : Below w.heap.size w w1 := B0.out.trans (hb.mono (by omega))
  have hsz := hb.size
  refine wpIn_rangeFunc_ownG rfl (by decide) (gf := 35) (lb := #[.pointer (some ⟨Bs, 0, none⟩)]) rfl trivial (enters_of Try.func35 (by kernel_rfl) rfl)
    (all_stops 4 Bs sv s HC.out (by omega) (by decide) w1 hbx _ ho) KpR.t (KpR.b (w := w1)) (Below.refl _ _) (fun _ => rfl)
    (fun pre W => (pre = [] ∧ Boxed W w.heap.size 3 (.int .i64 0) ∧ Boxed W (w.heap.size + 1) 4 (.bool false)) ∧ Below w.heap.size w W)
    (fun c pre W => (c = .ret ∧ ∃ x : Int, pre = [x] ∧ Boxed W w.heap.size 3 (.int .i64 x) ∧ Boxed W (w.heap.size + 1) 4 (.bool true)) ∧ Below w.heap.size w W)
    (OwnFrom.and (Own.from (fun s A B row hs hg hr => ⟨hs.1, boxed_own _ _ (fun _ : Unit => _) () A B row hs.2.1 hg hr, boxed_own _ _ (fun _ : Unit => _) () A B row hs.2.2 hg hr⟩) _) (ownFrom_below (Nat.le_refl _) BW.size))
    (fun c => OwnFrom.and (Own.from (fun s A B row hs hg hr => by
      obtain ⟨h1, x, h2, h3, h4⟩ := hs
      exact ⟨h1, x, h2, boxed_own _ _ (fun _ : Unit => _) () A B row h3 hg hr, boxed_own _ _ (fun _ : Unit => _) () A B row h4 hg hr⟩) _) (ownFrom_below (Nat.le_refl _) BW.size))
    ⟨⟨rfl, y0, y1⟩, BW⟩
    (fun x => { tmps := #[.slice aa l.length ca, undef, .pointer (some ⟨w.heap.size, 0, none⟩), .pointer (some ⟨w.heap.size + 1, 0, none⟩), .int .i64 x, .slice aa l.length ca, .func (.func 35) #[] #[.pointer (some ⟨Bs, 0, none⟩)], .int .i64 x, undef], defers := [] }) ?assign ?body ?done ?stop
  case assign =>
    intro l x W K hK
    gi_wp2
    exact hK
  case body =>
    rintro l pre x W ⟨⟨rfl, b0, b1⟩, hB⟩ _
    have c0 := b0.cell
    have f0 := b0.frozen
    have c1 := b1.cell
    have f1 := b1.frozen
    gi_wp2
    exact ⟨((KeepsOthers.setCell _ _ _).trans (KeepsOthers.setCell _ _ _)).from _, ⟨rfl, x, rfl, (b0.set _).other (by omega) _, (b1.other (by omega) _).set _⟩, (hB.setCell (p := ⟨w.heap.size, 0, none⟩) (Nat.le_refl _) _).setCell (p := ⟨w.heap.size + 1, 0, none⟩) (by simp) _⟩
  case done =>
    rintro D ys W hD rfl ⟨⟨hne, b0, b1⟩, hB⟩ hK
    have hs : s = [] := by
      cases s with
      | nil => rfl
      | cons r t =>
        obtain ⟨k1, _, _⟩ := cn_cons.1 HC.out
        rw [numsL_cons] at hne
        have := congrArg List.length hne
        rw [List.length_append, uptoN_length, List.length_nil] at this
        omega
    subst hs
    have c0 := b0.cell
    have f0 := b0.frozen
    have c1 := b1.cell
    have f1 := b1.frozen
    gi_wp2
    have hK' := ((KeepsOthers.setCell W ⟨w.heap.size, 0, none⟩ (.int .i64 0)).trans (KeepsOthers.setCell _ ⟨w.heap.size + 1, 0, none⟩ (.bool false))).same D _ hK rfl
    have z0 := ((b0.set (.int .i64 0)).other (B' := w.heap.size + 1) (by omega) (.bool false)).kept (grownBy_putObj' _ D (.deferred none)) (by simp; omega)
    have z1 := ((b1.other (B' := w.heap.size) (by omega) (.int .i64 0)).set (.bool false)).kept (grownBy_putObj' _ D (.deferred none)) (by simp; omega)
    refine ⟨by simp, .inl ⟨_, _, rfl, run_takeDeferred hK', ?_⟩⟩
    refine ⟨.tuple #[.int .i64 0, .bool false], ?_, rfl, ((hB.setCell (p := ⟨w.heap.size, 0, none⟩) (Nat.le_refl _) _).setCell (p := ⟨w.heap.size + 1, 0, none⟩) (by simp) _).trans (belowK_b (w := w) (Nat.le_refl _) _ D _ _ (by omega) hK' rfl rfl)⟩
    simp [results, Try.f19, go_sem, z0.cell, z1.cell]
  case stop =>
    rintro D c pre W hD hpre ⟨⟨rfl, x, rfl, b0, b1⟩, hB⟩ hK
    have hs : fstN s = x ∧ fstB s = true := by
      cases s with
      | nil =>
        obtain ⟨t, ht⟩ := hpre
        simp [numsL_nil] at ht
      | cons r t =>
        obtain ⟨k1, _, _⟩ := cn_cons.1 HC.out
        obtain ⟨u, hu⟩ := hpre
        obtain ⟨c, hc⟩ : ∃ c, (r.2 - r.1 + 1).toNat = c + 1 := ⟨(r.2 - r.1).toNat, by omega⟩
        obtain ⟨q, hq⟩ := uptoN_le (a := r.1) (j := 1) (k := c + 1) (by omega)
        rw [numsL_cons, hc, hq] at hu
        have e : uptoN r.1 1 = [r.1] := by simp [uptoN]
        rw [e] at hu
        simp at hu
        exact ⟨hu.1.symm, rfl⟩
    gi_wp2
    refine ⟨by simp, .inl ⟨_, _, rfl, run_takeDeferred hK, ?_⟩⟩
    have z0 := b0.kept (grownBy_putObj' _ D (.deferred none)) (by simp; omega)
    have z1 := b1.kept (grownBy_putObj' _ D (.deferred none)) (by simp; omega)
    refine ⟨.tuple #[.int .i64 x, .bool true], ?_, by rw [hs.1, hs.2], hB.trans (belowK_b (w := w) (Nat.le_refl _) W D _ _ (by omega) hK rfl rfl)⟩
    simp [results, Try.f19, go_sem, z0.cell, z1.cell]

end Go.Proofs.Ytoigljefajbofaa

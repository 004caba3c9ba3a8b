/-
  Texts of elder layers, joined: RnAll, RnFirst.
-/
import Derived.RangeFuncNested
import Derived.RangeFuncBound
import Derived.RangeFuncCalls
import Derived.RangeFuncLeaves
import Derived.RangeFuncWrites
import Derived.RangeFuncBox
import Derived.Shelf.Abstract
import Derived.Shelf.RegionOpen
import Derived.WalkKit
import Derived.OwnWalkIn
import Derived.TacticsInMore
import Derived.LoopNIn
import Derived.LoopIn
import Derived.Maps.AppendAt
import Derived.Test.YtnngfkjbbedkpaaBRunsA
import Derived.Test.YtnngfkjbbedkpaaBRunsB
namespace Go.Proofs.Ytnngfkjbbedkpaa

/-! RnAll -/
section
open Go.Shelf Go.RowKit Go.Lib Go.Sort

attribute [local go_sem] Oper.semAt_some

/-- Runs in memory are as they were. -/
def KpR (W W' : World) : Prop := ∀ (j : Nat) (cs : Array Value) (fr : Nat × Nat), W.heap[j]? = some (.cells cs 33 fr) → W'.heap[j]? = W.heap[j]?
theorem KpR.refl (W : World) : KpR W W := fun _ _ _ _ => rfl
theorem KpR.t {A B C : World} (h : KpR A B) (k : KpR B C) : KpR A C := fun j cs fr e => by
  have e1 := h j cs fr e
  exact (k j cs fr (e1.trans e)).trans e1
theorem KpR.b {w : World} (W : World) (l : Nat) (o o' : Obj) (_ : w.heap.size ≤ l) (h : W.heap[l]? = some o) (ho : o.isCells = false) (_ : o.isWalk = false) : KpR W (W.putObj l o') := fun j cs fr e => by
  refine World.putObj_heap_other fun he => ?_
  subst he
  rw [h] at e
  cases e
  simp [Obj.isCells] at ho
theorem KpR.grown {W W' : World} {row : Option Nat} (h : W.grownBy W' row) (hr : ∀ j cs fr, row = some j → W.heap[j]? ≠ some (.cells cs 33 fr)) : KpR W W' := fun j cs fr e => by
  refine h.block j (Array.getElem?_eq_some_iff.1 e).1 fun he => ?_
  exact hr j cs fr he.symm e
theorem KpR.alloc (W : World) (o : Obj) : KpR W (W.alloc o) := KpR.grown (World.grownBy_alloc W o none) fun _ _ _ h => by cases h
theorem KpR.setBox {W : World} {B : Nat} {t : TypeId} {v : Value} (h : Boxed W B t v) (ht : t ≠ 33) (v' : Value) : KpR W (W.setCell ⟨B, 0, none⟩ v') :=
  KpR.grown (grownBy_setCell' W B v') fun j cs fr e k => by
    cases e
    rw [show W.heap[B]? = _ from h] at k
    cases k
    exact ht rfl
theorem KpR.cl {W W' : World} {q : Nat} {cs : Array Value} (h : KpR W W') (c : Cl W q cs 33) : Cl W' q cs 33 := (h q cs (0, 0) c).trans c

/-- A row of runs, in a block of runs. -/
def RunRow (W : World) (v : Value) (s : List Pr) : Prop :=
  ∃ ao cap, v = .slice ao s.length cap ∧ (s ≠ [] → ∃ b cs, ao = some ⟨b, 0, none⟩ ∧ Cl W b cs 33 ∧ ∀ i, i < s.length → cs[i * 2]? = some (.int .i64 s[i]!.1) ∧ cs[i * 2 + 1]? = some (.int .i64 s[i]!.2))

theorem RunRow.of_own {base : Nat} {W : World} {v : Value} {s : List Pr} (h : OwnP base W v s) : RunRow W v s := by
  obtain ⟨h0, h1⟩ := h
  rcases h1 with ⟨rfl, h1⟩ | ⟨g, cap, cur, rfl, hg, hh, hc, hm, hs, ht⟩
  · refine ⟨none, 0, by rw [h1], fun hne => ?_⟩
    exact absurd (List.length_eq_zero_iff.1 h1) hne
  · refine ⟨some ⟨g, 0, none⟩, cap, rfl, fun hne => ⟨g, cur, rfl, hh, fun i hi => ?_⟩⟩
    have get : ∀ t, t < s.length * 2 → cur[t]? = (flatK encP 2 s.toArray).toList[t]? := fun t ht' => by
      rw [← ht, List.getElem?_take_of_lt ht', Array.getElem?_toList]
    have f : ∀ t, t < s.length * 2 → (flatK encP 2 s.toArray).toList[t]? = some (flatK encP 2 s.toArray)[t]! := fun t ht' => by
      rw [Array.getElem?_toList, Array.getElem?_eq_getElem (by simpa using ht'), getElem!_pos _ t (by simpa using ht')]
    constructor
    · rw [get _ (by omega), f _ (by omega), get_flatK _ _ _ _ (by simp; omega), show i * 2 / 2 = i by omega, show i * 2 % 2 = 0 by omega]
      simp [encP]
    · rw [get _ (by omega), f _ (by omega), get_flatK _ _ _ _ (by simp; omega), show (i * 2 + 1) / 2 = i by omega, show (i * 2 + 1) % 2 = 1 by omega]
      simp [encP]

theorem RunRow.keep {W W' : World} {v : Value} {s : List Pr} (h : RunRow W v s) (k : KpR W W') : RunRow W' v s := by
  obtain ⟨ao, cap, e, h2⟩ := h
  refine ⟨ao, cap, e, fun hne => ?_⟩
  obtain ⟨b, cs, e2, hc, hs⟩ := h2 hne
  exact ⟨b, cs, e2, k.cl hc, hs⟩

theorem RunRow.at {W : World} {ao : Option Addr} {n cap : Nat} {s : List Pr} (h : RunRow W (.slice ao n cap) s) (i : Nat) (hi : i < s.length) : ∃ b, ao = some ⟨b, 0, none⟩ ∧ W.cell? ⟨b, i * 2, none⟩ = some (.int .i64 s[i]!.1) ∧ W.cell? ⟨b, i * 2 + 1, none⟩ = some (.int .i64 s[i]!.2) := by
  obtain ⟨ao', cap', e, h2⟩ := h
  cases e
  obtain ⟨b, cs, e2, hc, hs⟩ := h2 (by intro e; rw [e] at hi; simp at hi)
  exact ⟨b, e2, (hc.cell _).trans (hs i hi).1, (hc.cell _).trans (hs i hi).2⟩

theorem nums_split {s : List Pr} {k : Nat} (h : k < s.length) : numsL s = numsL (s.take k) ++ (uptoN s[k]!.1 (s[k]!.2 - s[k]!.1 + 1).toNat ++ numsL (s.drop (k + 1))) := by
  have e : s = s.take k ++ (s[k]! :: s.drop (k + 1)) := by rw [← drop_here h, List.take_append_drop]
  conv => lhs; rw [e]
  unfold numsL
  rw [List.flatMap_append, List.flatMap_cons]

theorem uptoN_le {a : Int} {j k : Nat} (h : j ≤ k) : ∃ t, uptoN a k = uptoN a j ++ t := by
  obtain ⟨d, rfl⟩ : ∃ d, k = j + d := ⟨k - j, by omega⟩
  refine ⟨(List.range d).map fun i : Nat => a + ((j + i : Nat) : Int), ?_⟩
  unfold uptoN
  rw [List.range_add, List.map_append, List.map_map]
  rfl

theorem eql_yield (l : Nat) (W : World) : (binOp .eql 46 (.func (.yield l) #[] #[]) .nilFunc).run Try.prog W = .ok (.bool false) W := by
  have h : ∀ d : Nat, (Op.equalIn (d + 1) 46 (.func (.yield l) #[] #[]) .nilFunc).run Try.prog W = .ok false W := fun d => by
    simp [Op.equalIn, run_underlying Try.underlying46]
  simp only [binOp]
  simp [Op.equal, Op.maxDepth, h 9999]

set_option maxRecDepth 100000 in
set_option maxHeartbeats 4000000 in
theorem all1_in (F : Fence) (n : Nat) (h35 : F.fn 56) (hro : F.round = none) (hn : 1 ≤ n) (l Bs : Nat) (ao : Option Addr) (cap : Nat) (s : List Pr) (hcn : Cn s) (hl : s.length ≤ 1000000) (J Jx : List Int → World → Prop) (hJ : ∀ pre W o, J pre W → J pre (World.alloc W o))
    (hY : ∀ pre x W, J pre W → pre.length < (numsL s).length → YieldAt F (n - 1) Try.prog l #[.int .i64 x] W fun e W' =>
      (e = .returned (.bool true) ∧ J (pre ++ [x]) W' ∧ KpR W W') ∨ (e = .returned (.bool false) ∧ Jx (pre ++ [x]) W'))
    (W : World) (hBs : W.cell? ⟨Bs, 0, none⟩ = some (.slice ao s.length cap)) (hR : RunRow W (.slice ao s.length cap) s) (h0 : J [] W) :
    CallsIn F n Try.prog 56 #[.func (.yield l) #[] #[], .pointer (some ⟨Bs, 0, none⟩)] W fun e W' => (∃ v, e = .returned v) ∧
      ((∃ ys, ys = numsL s ∧ J ys W') ∨ (∃ pre, pre <+: numsL s ∧ Jx pre W')) := by
  refine callsIn_of_wp Try.func56 rfl h35 ?_ hro
  simp only [Try.ntmps56, List.size_toArray, List.length_cons, List.length_nil, Nat.reduceAdd, Nat.reduceSub, Array.replicate_succ, Array.replicate_zero, List.push_toArray, List.append_toArray, List.nil_append, List.cons_append]
  have EY := eql_yield l
  gi_wp2
  gi_loopw [10] (fun i wr => ∃ k : Nat, k ≤ s.length ∧ i = .int .i64 k ∧ J (numsL (s.take k)) wr ∧ KpR W wr)
    (fun i _ => s.length - (intOf i).toNat)
  case atStart => exact ⟨0, Nat.zero_le _, rfl, h0, KpR.refl _⟩
  case round =>
    obtain ⟨k, hk, rfl, hJs, hkp⟩ := hrel
    by_cases hlt : k < s.length
    · have hltz : (k : Int) < (s.length : Int) := by omega
      obtain ⟨b, rfl, x1, x2⟩ := (hR.keep hkp).at k hlt
      obtain ⟨y1, y2, y3⟩ := hcn.1 s[k]! (bang_mem hlt)
      have T : numsL (s.take (k + 1)) = numsL (s.take k) ++ uptoN s[k]!.1 (s[k]!.2 - s[k]!.1 + 1).toNat := by rw [take_next hlt, numsL_snoc]
      have SP := nums_split hlt
      generalize s[k]! = x at *
      obtain ⟨cnt, hcnt⟩ : ∃ cnt : Nat, (cnt : Int) = x.2 - x.1 + 1 := ⟨(x.2 - x.1 + 1).toNat, by omega⟩
      have hc2 : (x.2 - x.1 + 1).toNat = cnt := by omega
      rw [hc2] at T SP
      generalize numsL (s.drop (k + 1)) = tl at SP
      generalize hP : numsL (s.take k) = P at *
      have hN : (numsL s).length = P.length + (cnt + tl.length) := by rw [SP, List.length_append, List.length_append, uptoN_length]
      have J1 : J (P ++ uptoN x.1 0) (wr.alloc (.cells #[.int .i64 x.1, .int .i64 x.2] 33)) := by simpa [uptoN] using hJ _ _ (.cells #[.int .i64 x.1, .int .i64 x.2] 33) hJs
      have K1 : KpR W (wr.alloc (.cells #[.int .i64 x.1, .int .i64 x.2] 33)) := hkp.t (KpR.alloc _ _)
      have C1 : Cl (wr.alloc (.cells #[.int .i64 x.1, .int .i64 x.2] 33)) wr.heap.size #[.int .i64 x.1, .int .i64 x.2] 33 := Cl.new _ _ _
      gi_wp2
      generalize wr.alloc (.cells #[.int .i64 x.1, .int .i64 x.2] 33) = w2 at *
      generalize wr.heap.size = q at *
      clear x1 x2 hJs hkp
      gi_loopw [5] (fun p wr2 => ∃ j : Nat, j ≤ cnt ∧ p = .int .i64 (x.1 + (j : Int)) ∧ J (P ++ uptoN x.1 j) wr2 ∧ KpR W wr2 ∧ Cl wr2 q #[.int .i64 x.1, .int .i64 x.2] 33)
        (fun p _ => (x.2 + 1 - intOf p).toNat)
      case atStart => exact ⟨0, Nat.zero_le _, by simp, J1, K1, C1⟩
      case round =>
        obtain ⟨j, hj, rfl, hJ2, hkp2, hq⟩ := hrel
        have q0 := hq.two.1
        have q1 := hq.two.2
        by_cases hjl : j < cnt
        · have hle : x.1 + (j : Int) ≤ x.2 := by omega
          have e1 : wrap64 (x.1 + (j : Int) + 1) = x.1 + (j : Int) + 1 := w64 (by omega) (by omega)
          obtain ⟨fn, tmps, assign, body, hy, hRd⟩ := hY _ (x.1 + (j : Int)) wr hJ2 (by rw [hN, List.length_append, uptoN_length]; omega)
          gi_wp2
          refine hRd.mono ?_
          rintro e W3 (⟨rfl, hJ3, hk3⟩ | ⟨rfl, hJx3⟩)
          · gi_wp2
            go_roundw
            case rel => exact ⟨j + 1, by omega, by simp; omega, by rw [uptoN_succ, ← List.append_assoc]; exact hJ3, hkp2.t hk3, hk3.cl hq⟩
            case measure => simp [intOf]; omega
          · gi_wp2
            refine bodyPost_ret (results_none rfl _ _ _) rfl ?_
            refine ⟨⟨_, rfl⟩, .inr ⟨_, ?_, hJx3⟩⟩
            obtain ⟨t, ht⟩ := uptoN_le (a := x.1) (j := j + 1) (k := cnt) (by omega)
            rw [SP, List.append_assoc, ← uptoN_succ, ht]
            exact ⟨t ++ tl, by simp⟩
        · have hle : ¬ x.1 + (j : Int) ≤ x.2 := by omega
          obtain rfl : j = cnt := by omega
          gi_wp2
          go_roundw
          case rel => exact ⟨k + 1, by omega, by simp, by rw [T]; exact hJ2, hkp2⟩
          case measure => simp [intOf]; omega
    · have hltz : ¬ (k : Int) < (s.length : Int) := by omega
      obtain rfl : k = s.length := by omega
      rw [List.take_length] at hJs
      gi_wp2
      go_end0
      exact ⟨⟨_, rfl⟩, .inl hJs⟩

/-- The function that All answers, as the laws of ranges ask it. -/
theorem all_stops (n : Nat) (Bs : Nat) (sv : Value) (s : List Pr) (hcn : Cn s) (hl : s.length ≤ 1000000) (hn : 1 ≤ n) (w : World) (hBs : Boxed w Bs 22 sv) (base : Nat) (hR : OwnP base w sv s) :
    SeqStopsK Fence.wide n Try.prog 56 #[.pointer (some ⟨Bs, 0, none⟩)] (fun x : Int => #[Value.int .i64 x]) KpR (fun ys => ys = numsL s) (fun pre => pre <+: numsL s) (numsL s).length w := fun l J Jx W hW hJ _ hY h0 => by
  have hb := (hW.cell (p := ⟨Bs, 0, none⟩) hBs.lt).trans hBs.cell
  have hr : RunRow W sv s := RunRow.of_own (ownsRow_below hR hW)
  obtain ⟨ao, cap, rfl, _⟩ := id hr
  exact all1_in Fence.wide n trivial rfl hn l Bs ao cap s hcn hl J Jx (fun pre W o h => hJ pre W _ none h (World.grownBy_alloc W o none) (fun r e => by cases e)) hY W hb hr h0
end

/-! RnFirst -/
section
open Go.Shelf Go.RowKit Go.Lib Go.Sort

attribute [local go_sem] Oper.semAt_some

set_option maxHeartbeats 1000000 in
theorem all_any (v : Value) (l : List Pr) (w : World) (h : Row encP 2 w v l) (hl : l.length ≤ 100000) :
    Calls Try.prog 39 #[v] w fun e w' => ∃ Bs sv, e = .returned (.func (.func 56) #[] #[.pointer (some ⟨Bs, 0, none⟩)]) ∧ w.heap.size ≤ Bs ∧ Boxed w' Bs 22 sv ∧ OwnP w.heap.size w' sv (nmL l) ∧ Below w.heap.size w w' := by
  have C : Hid (Calls Try.prog 20 #[v] w fun e w' => ∃ v', e = .returned v' ∧ OwnP w.heap.size w' v' (nmL l) ∧ Below w.heap.size w w') := norm_own v l w h hl
  obtain ⟨aa, ca, rfl, _⟩ := h
  go_enter Try.func39, Try.ntmps39
  go_wp2_with fail
  refine Calls.mono C.out ?_
  rintro e w1 ⟨v1, rfl, ho, hb⟩
  have HO : Aside (OwnP w.heap.size w1 v1 (nmL l)) := ho
  have HB : Hid (Below w.heap.size w w1) := hb
  obtain ⟨a1, c1, rfl, _⟩ := ho.own
  clear ho hb C
  go_wp2
  go_ret
  exact ⟨_, _, rfl, HB.out.size, Boxed.new _ _ _, HO.out.alloc _, HB.out.alloc HB.out.size _⟩

set_option maxRecDepth 100000 in
set_option maxHeartbeats 2000000 in
theorem first_any (v : Value) (l : List Pr) (w : World) (h : Row encP 2 w v l) (hl : l.length ≤ 100000) :
    Calls Try.prog 22 #[v] w fun e w' => e = .returned (.tuple #[.int .i64 (fstN (nmL l)), .bool (fstB (nmL l))]) ∧ Below w.heap.size w w' := by
  have B0 : Hid (Below w.heap.size w ((w.alloc (.cells #[.int .i64 0] 3)).alloc (.cells #[.bool false] 4))) := ((Below.refl _ w).alloc (Nat.le_refl _) _).alloc (by simp) _
  have hz : ((w.alloc (.cells #[.int .i64 0] 3)).alloc (.cells #[.bool false] 4)).heap.size = w.heap.size + 2 := by simp
  have x0 : Boxed ((w.alloc (.cells #[.int .i64 0] 3)).alloc (.cells #[.bool false] 4)) w.heap.size 3 (.int .i64 0) := (Boxed.new w 3 (.int .i64 0)).alloc _
  have x1 : Boxed ((w.alloc (.cells #[.int .i64 0] 3)).alloc (.cells #[.bool false] 4)) (w.heap.size + 1) 4 (.bool false) := by have := Boxed.new (w.alloc (.cells #[.int .i64 0] 3)) 4 (.bool false); rw [World.size_alloc] at this; exact this
  have C : Hid (Calls Try.prog 39 #[v] ((w.alloc (.cells #[.int .i64 0] 3)).alloc (.cells #[.bool false] 4)) fun e w' => ∃ Bs sv, e = .returned (.func (.func 56) #[] #[.pointer (some ⟨Bs, 0, none⟩)]) ∧ w.heap.size + 2 ≤ Bs ∧ Boxed w' Bs 22 sv ∧ OwnP (w.heap.size + 2) w' sv (nmL l) ∧ Below (w.heap.size + 2) ((w.alloc (.cells #[.int .i64 0] 3)).alloc (.cells #[.bool false] 4)) w') := by
    have := all_any v l ((w.alloc (.cells #[.int .i64 0] 3)).alloc (.cells #[.bool false] 4)) (h.below B0.out) hl
    rw [hz] at this
    exact this
  have hl2 := nmL_length l
  have HC : Hid (Cn (nmL l)) := nmL_cn l
  obtain ⟨aa, ca, rfl, _⟩ := h
  generalize nmL l = s at *
  refine (callsIn_wide (n := 5)).1 ?_
  refine callsIn_of_wp_marks Try.func22 rfl trivial ?_ rfl
  simp only [Try.ntmps22, List.size_toArray, List.length_cons, List.length_nil, Nat.reduceAdd, Nat.reduceSub, Array.replicate_succ, Array.replicate_zero, List.push_toArray, List.append_toArray, List.nil_append, List.cons_append]
  gi_wp2_with fail
  refine ⟨trivial, (callsIn_wide.2 C.out).mono ?_⟩
  rintro e w1 ⟨Bs, sv, rfl, hBs, hbx, ho, hb⟩
  gi_wp2
  have y0 : Boxed w1 w.heap.size 3 (.int .i64 0) := (hb.block _ (by omega)).trans x0
  have y1 : Boxed w1 (w.heap.size + 1) 4 (.bool false) := (hb.block _ (by omega)).trans x1
  have BW : Below w.heap.size w w1 := B0.out.trans (hb.mono (by omega))
  have hsz := hb.size
  refine wpIn_rangeFunc_ownG rfl (by decide) (gf := 56) (lb := #[.pointer (some ⟨Bs, 0, none⟩)]) rfl trivial (enters_of Try.func56 (by kernel_rfl) rfl)
    (all_stops 4 Bs sv s HC.out (by omega) (by decide) w1 hbx _ ho) KpR.t (KpR.b (w := w1)) (Below.refl _ _) (fun _ => rfl)
    (fun pre W => (pre = [] ∧ Boxed W w.heap.size 3 (.int .i64 0) ∧ Boxed W (w.heap.size + 1) 4 (.bool false)) ∧ Below w.heap.size w W)
    (fun c pre W => (c = .ret ∧ ∃ x : Int, pre = [x] ∧ Boxed W w.heap.size 3 (.int .i64 x) ∧ Boxed W (w.heap.size + 1) 4 (.bool true)) ∧ Below w.heap.size w W)
    (OwnFrom.and (Own.from (fun s A B row hs hg hr => ⟨hs.1, boxed_own _ _ (fun _ : Unit => _) () A B row hs.2.1 hg hr, boxed_own _ _ (fun _ : Unit => _) () A B row hs.2.2 hg hr⟩) _) (ownFrom_below (Nat.le_refl _) BW.size))
    (fun c => OwnFrom.and (Own.from (fun s A B row hs hg hr => by
      obtain ⟨h1, x, h2, h3, h4⟩ := hs
      exact ⟨h1, x, h2, boxed_own _ _ (fun _ : Unit => _) () A B row h3 hg hr, boxed_own _ _ (fun _ : Unit => _) () A B row h4 hg hr⟩) _) (ownFrom_below (Nat.le_refl _) BW.size))
    ⟨⟨rfl, y0, y1⟩, BW⟩
    (fun x => { tmps := #[.slice aa l.length ca, undef, .pointer (some ⟨w.heap.size, 0, none⟩), .pointer (some ⟨w.heap.size + 1, 0, none⟩), .int .i64 x, .slice aa l.length ca, .func (.func 56) #[] #[.pointer (some ⟨Bs, 0, none⟩)], .int .i64 x, undef], defers := [] }) ?assign ?body ?done ?stop
  case assign =>
    intro l x W K hK
    gi_wp2
    exact hK
  case body =>
    rintro l pre x W ⟨⟨rfl, b0, b1⟩, hB⟩ _
    have c0 := b0.cell
    have f0 := b0.frozen
    have c1 := b1.cell
    have f1 := b1.frozen
    gi_wp2
    exact ⟨((KeepsOthers.setCell _ _ _).trans (KeepsOthers.setCell _ _ _)).from _, ⟨rfl, x, rfl, (b0.set _).other (by omega) _, (b1.other (by omega) _).set _⟩, (hB.setCell (p := ⟨w.heap.size, 0, none⟩) (Nat.le_refl _) _).setCell (p := ⟨w.heap.size + 1, 0, none⟩) (by simp) _⟩
  case done =>
    rintro D ys W hD rfl ⟨⟨hne, b0, b1⟩, hB⟩ hK
    have hs : s = [] := by
      cases s with
      | nil => rfl
      | cons r t =>
        obtain ⟨k1, _, _⟩ := cn_cons.1 HC.out
        rw [numsL_cons] at hne
        have := congrArg List.length hne
        rw [List.length_append, uptoN_length, List.length_nil] at this
        omega
    subst hs
    have c0 := b0.cell
    have f0 := b0.frozen
    have c1 := b1.cell
    have f1 := b1.frozen
    gi_wp2
    have hK' := ((KeepsOthers.setCell W ⟨w.heap.size, 0, none⟩ (.int .i64 0)).trans (KeepsOthers.setCell _ ⟨w.heap.size + 1, 0, none⟩ (.bool false))).same D _ hK rfl
    have z0 := ((b0.set (.int .i64 0)).other (B' := w.heap.size + 1) (by omega) (.bool false)).kept (grownBy_putObj' _ D (.deferred none)) (by simp; omega)
    have z1 := ((b1.other (B' := w.heap.size) (by omega) (.int .i64 0)).set (.bool false)).kept (grownBy_putObj' _ D (.deferred none)) (by simp; omega)
    refine ⟨by simp, .inl ⟨_, _, rfl, run_takeDeferred hK', ?_⟩⟩
    refine ⟨.tuple #[.int .i64 0, .bool false], ?_, rfl, ((hB.setCell (p := ⟨w.heap.size, 0, none⟩) (Nat.le_refl _) _).setCell (p := ⟨w.heap.size + 1, 0, none⟩) (by simp) _).trans (belowK_b (w := w) (Nat.le_refl _) _ D _ _ (by omega) hK' rfl rfl)⟩
    simp [results, Try.f22, go_sem, z0.cell, z1.cell]
  case stop =>
    rintro D c pre W hD hpre ⟨⟨rfl, x, rfl, b0, b1⟩, hB⟩ hK
    have hs : fstN s = x ∧ fstB s = true := by
      cases s with
      | nil =>
        obtain ⟨t, ht⟩ := hpre
        simp [numsL_nil] at ht
      | cons r t =>
        obtain ⟨k1, _, _⟩ := cn_cons.1 HC.out
        obtain ⟨u, hu⟩ := hpre
        obtain ⟨c, hc⟩ : ∃ c, (r.2 - r.1 + 1).toNat = c + 1 := ⟨(r.2 - r.1).toNat, by omega⟩
        obtain ⟨q, hq⟩ := uptoN_le (a := r.1) (j := 1) (k := c + 1) (by omega)
        rw [numsL_cons, hc, hq] at hu
        have e : uptoN r.1 1 = [r.1] := by simp [uptoN]
        rw [e] at hu
        simp at hu
        exact ⟨hu.1.symm, rfl⟩
    gi_wp2
    refine ⟨by simp, .inl ⟨_, _, rfl, run_takeDeferred hK, ?_⟩⟩
    have z0 := b0.kept (grownBy_putObj' _ D (.deferred none)) (by simp; omega)
    have z1 := b1.kept (grownBy_putObj' _ D (.deferred none)) (by simp; omega)
    refine ⟨.tuple #[.int .i64 x, .bool true], ?_, by rw [hs.1, hs.2], hB.trans (belowK_b (w := w) (Nat.le_refl _) W D _ _ (by omega) hK rfl rfl)⟩
    simp [results, Try.f22, go_sem, z0.cell, z1.cell]
end

end Go.Proofs.Ytnngfkjbbedkpaa

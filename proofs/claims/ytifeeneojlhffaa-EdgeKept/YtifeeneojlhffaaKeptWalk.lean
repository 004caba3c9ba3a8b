/-
  The walk of the law EdgeKept.
-/
import Derived.Test.YtifeeneojlhffaaEdWorks
import Derived.Test.YtifeeneojlhffaaEdApply
import Derived.Test.YtifeeneojlhffaaApp
namespace Go.Proofs.Ytifeeneojlhffaa
open Go.Shelf Go.RowKit Go.Lib Go.Sort

theorem applyOf_length {l : List Pr} {c : List Ch} {r : List Pr} (h : applyOf l c r) : r.length ≤ l.length + c.length := by
  have h2 := applyL_of l c
  have e : r = applyL (sortL l) c := ss_ext _ _ h.1 h2.1 fun x => by rw [h.2 x, h2.2 x]
  have h3 := (applyL_spec c (sortL l) (sortL_spec l).1).2.2
  have h4 := (sortL_spec l).2.2
  rw [e]
  omega

/-- Cells that are there and can be written. -/
def Free (W : World) (b off m : Nat) : Prop := ∀ t, t < m → (∃ v, W.cell? ⟨b, off + t, none⟩ = some v) ∧ W.frozen? ⟨b, off + t, none⟩ = false

theorem Free.other {W W' : World} {b off m : Nat} (h : Free W b off m) (e : W'.heap[b]? = W.heap[b]?) : Free W' b off m := fun t ht => by
  obtain ⟨⟨v, hv⟩, hf⟩ := h t ht
  exact ⟨⟨v, by rw [World.cell?_of_block (w := W) (a := ⟨b, off + t, none⟩) e]; exact hv⟩, by rw [World.frozen?_of_block (w := W) (a := ⟨b, off + t, none⟩) e]; exact hf⟩

theorem Free.set {W : World} {b off m : Nat} (h : Free W b off m) (k : Nat) (v : Value) : Free (W.setCell ⟨b, off + k, none⟩ v) b off m := fun t ht => by
  obtain ⟨⟨u, hu⟩, hf⟩ := h t ht
  exact ⟨cell?_setCell_some hu, by rw [World.frozen?_setCell]; exact hf⟩

/-- Where a new row lies. -/
theorem own_free {base : Nat} {W : World} {ao : Option Addr} {n cap : Nat} {l : List Pr} (h : Own encP 2 base W (.slice ao n cap) l) : ∃ b off, (0 < l.length → ao = some ⟨b, off, none⟩ ∧ b < W.heap.size) ∧ base ≤ b ∧ Free W b off (l.length * 2) := by
  obtain ⟨ao', cap', e, h1, h2, h3⟩ := h
  cases e
  by_cases hne : l = []
  · subst hne
    exact ⟨base, 0, (fun h => absurd h (by simp)), Nat.le_refl _, fun t ht => absurd ht (by simp)⟩
  · obtain ⟨b, off, e2, hb, hlt, hH⟩ := h3 hne
    exact ⟨b, off, fun _ => ⟨e2, hlt⟩, hb, fun t ht => ⟨⟨_, (hH t (by simpa using ht)).1⟩, (hH t (by simpa using ht)).2⟩⟩

namespace edgeKept
set_option maxRecDepth 100000 in
set_option maxHeartbeats 1000000 in
theorem long_a (va : Value) (a : List Pr) (vb : Value) (b : List Pr) (vc : Value) (c : List Ch) (w : World) (ha : Row encP 2 w va a) (hb : Row encP 2 w vb b) (hc : Row encC 3 w vc c) (la : 60 < a.length) : Calls Try.prog 8 #[va, vb, vc] w fun e w' => e = .returned (.bool true) ∧ Below w.heap.size w w' := by
  obtain ⟨aoa, capa, rfl, _⟩ := id ha
  obtain ⟨aob, capb, rfl, _⟩ := id hb
  obtain ⟨aoc, capc, rfl, _⟩ := id hc
  have ia : (60 : Int) < (a.length : Int) := by omega
  clear ha hb hc
  go_enter Try.func8, Try.ntmps8
  go_wp2_with fail
  refine (works_any _).mono ?_
  rintro e w1 ⟨rfl, b1⟩
  go_wp2
  go_ret
  exact ⟨rfl, b1⟩

set_option maxRecDepth 100000 in
set_option maxHeartbeats 1000000 in
theorem long_b (va : Value) (a : List Pr) (vb : Value) (b : List Pr) (vc : Value) (c : List Ch) (w : World) (ha : Row encP 2 w va a) (hb : Row encP 2 w vb b) (hc : Row encC 3 w vc c) (la : a.length ≤ 60) (lb : 60 < b.length) : Calls Try.prog 8 #[va, vb, vc] w fun e w' => e = .returned (.bool true) ∧ Below w.heap.size w w' := by
  obtain ⟨aoa, capa, rfl, _⟩ := id ha
  obtain ⟨aob, capb, rfl, _⟩ := id hb
  obtain ⟨aoc, capc, rfl, _⟩ := id hc
  have ia : ¬ (60 : Int) < (a.length : Int) := by omega
  have ib : (60 : Int) < (b.length : Int) := by omega
  clear ha hb hc
  go_enter Try.func8, Try.ntmps8
  go_wp2_with fail
  refine (works_any _).mono ?_
  rintro e w1 ⟨rfl, b1⟩
  go_wp2
  go_ret
  exact ⟨rfl, b1⟩

set_option maxRecDepth 100000 in
set_option maxHeartbeats 1000000 in
theorem long_c (va : Value) (a : List Pr) (vb : Value) (b : List Pr) (vc : Value) (c : List Ch) (w : World) (ha : Row encP 2 w va a) (hb : Row encP 2 w vb b) (hc : Row encC 3 w vc c) (la : a.length ≤ 60) (lb : b.length ≤ 60) (lc : 60 < c.length) : Calls Try.prog 8 #[va, vb, vc] w fun e w' => e = .returned (.bool true) ∧ Below w.heap.size w w' := by
  obtain ⟨aoa, capa, rfl, _⟩ := id ha
  obtain ⟨aob, capb, rfl, _⟩ := id hb
  obtain ⟨aoc, capc, rfl, _⟩ := id hc
  have ia : ¬ (60 : Int) < (a.length : Int) := by omega
  have ib : ¬ (60 : Int) < (b.length : Int) := by omega
  have ic : (60 : Int) < (c.length : Int) := by omega
  clear ha hb hc
  go_enter Try.func8, Try.ntmps8
  go_wp2_with fail
  refine (works_any _).mono ?_
  rintro e w1 ⟨rfl, b1⟩
  go_wp2
  go_ret
  exact ⟨rfl, b1⟩

set_option maxRecDepth 100000 in
set_option maxHeartbeats 4000000 in
theorem short (va : Value) (a : List Pr) (vb : Value) (b : List Pr) (vc : Value) (c : List Ch) (w : World) (ha : Row encP 2 w va a) (hb : Row encP 2 w vb b) (hc : Row encC 3 w vc c) (la : a.length ≤ 60) (lb : b.length ≤ 60) (lc : c.length ≤ 60) : Calls Try.prog 8 #[va, vb, vc] w fun e w' => e = .returned (.bool true) ∧ Below w.heap.size w w' := by
  have Ra0 : Hid (Row encP 2 w va a) := ha
  obtain ⟨aoa, capa, rfl, _⟩ := id ha
  have Rb0 : Hid (Row encP 2 w vb b) := hb
  obtain ⟨aob, capb, rfl, _⟩ := id hb
  have Rc0 : Hid (Row encC 3 w vc c) := hc
  obtain ⟨aoc, capc, rfl, _⟩ := id hc
  clear ha hb hc
  have B0 : Hid (Below w.heap.size w w) := Below.refl _ _
  have ia : ¬ (60 : Int) < (a.length : Int) := by omega
  have ib : ¬ (60 : Int) < (b.length : Int) := by omega
  have ic : ¬ (60 : Int) < (c.length : Int) := by omega
  go_enter Try.func8, Try.ntmps8
  have C0 : Hid _ := works_any w
  go_wp2_with fail
  refine Calls.mono C0.out ?_
  rintro e w1 ⟨rfl, b1⟩
  have Ra1 : Hid (Row encP 2 w1 _ a) := Ra0.out.below b1
  have Rb1 : Hid (Row encP 2 w1 _ b) := Rb0.out.below b1
  have Rc1 : Hid (Row encC 3 w1 _ c) := Rc0.out.below b1
  have B1 : Hid (Below w.heap.size w w1) := B0.out.trans (b1.mono B0.out.size)
  clear Ra0 Rb0 Rc0 B0 b1 C0
  go_wp2_with (at_builtin; refine app_rowP rfl _ _ rfl w1.heap.size _ [] rfl (OwnP.empty _ _) _ a rfl (Ra1.out.below (Below.refl w1.heap.size w1)) (by simp only [List.length_nil]; omega) ((Below.refl w1.heap.size w1).size) a (List.nil_append a) ?_)
  intro ax2 nx2 cx2 w2 HO2 HB2
  have OX2 : Aside (OwnP w1.heap.size w2 (.slice ax2 nx2 cx2) a) := HO2
  have K2 : Hid (Below w1.heap.size w1 w2) := HB2 _ (Below.refl w1.heap.size w1)
  clear HO2 HB2
  have Ra2 : Hid (Row encP 2 w2 _ a) := Ra1.out.below K2.out
  have Rb2 : Hid (Row encP 2 w2 _ b) := Rb1.out.below K2.out
  have Rc2 : Hid (Row encC 3 w2 _ c) := Rc1.out.below K2.out
  have B2 : Hid (Below w.heap.size w w2) := B1.out.trans (K2.out.mono B1.out.size)
  have ox := OX2.out.own
  have Rx2 : Hid (Row encP 2 w2 _ a) := ox.row
  obtain ⟨xx, yx, ezx, _⟩ := id ox
  cases ezx
  clear Ra1 Rb1 Rc1 B1 ox OX2 K2
  go_wp2_with (at_builtin; refine app_rowP rfl _ _ rfl w2.heap.size _ [] rfl (OwnP.empty _ _) _ b rfl (Rb2.out.below (Below.refl w2.heap.size w2)) (by simp only [List.length_nil]; omega) ((Below.refl w2.heap.size w2).size) b (List.nil_append b) ?_)
  intro ax3 nx3 cx3 w3 HO3 HB3
  have OX3 : Aside (OwnP w2.heap.size w3 (.slice ax3 nx3 cx3) b) := HO3
  have K3 : Hid (Below w2.heap.size w2 w3) := HB3 _ (Below.refl w2.heap.size w2)
  clear HO3 HB3
  have Ra3 : Hid (Row encP 2 w3 _ a) := Ra2.out.below K3.out
  have Rb3 : Hid (Row encP 2 w3 _ b) := Rb2.out.below K3.out
  have Rc3 : Hid (Row encC 3 w3 _ c) := Rc2.out.below K3.out
  have Rx3 : Hid (Row encP 2 w3 _ a) := Rx2.out.below K3.out
  have B3 : Hid (Below w.heap.size w w3) := B2.out.trans (K3.out.mono B2.out.size)
  have oy := OX3.out.own
  have Ry3 : Hid (Row encP 2 w3 _ b) := oy.row
  obtain ⟨xy, yy, ezy, _⟩ := id oy
  cases ezy
  clear Ra2 Rb2 Rc2 Rx2 B2 oy OX3 K3
  have Qa : Hid (Row encP 2 w3 _ a) := Ra3
  have Qb : Hid (Row encP 2 w3 _ b) := Rb3
  have Qx : Hid (Row encP 2 w3 _ a) := Rx3
  have Qy : Hid (Row encP 2 w3 _ b) := Ry3
  have BQ : Hid (Below w.heap.size w w3) := B3
  have D3 : Hid (Below w3.heap.size w3 w3) := Below.refl _ _
  clear Rx3 Ry3
  have C3 : Hid _ := sort_any _ a w3 Ra3.out (by omega)
  go_wp2_with fail
  refine Calls.mono C3.out ?_
  rintro e w4 ⟨t1, s, rfl, os, ss1, ls1, ms1, b4⟩
  have bb4 := b4
  have Ra4 : Hid (Row encP 2 w4 _ a) := Ra3.out.below b4
  have Rb4 : Hid (Row encP 2 w4 _ b) := Rb3.out.below b4
  have Rc4 : Hid (Row encC 3 w4 _ c) := Rc3.out.below b4
  have B4 : Hid (Below w.heap.size w w4) := B3.out.trans (b4.mono B3.out.size)
  clear Ra3 Rb3 Rc3 B3 b4 C3
  have D4 : Hid (Below w3.heap.size w3 w4) := D3.out.trans (bb4.mono D3.out.size)
  clear D3 bb4
  have Os4 : Hid (Own encP 2 w3.heap.size w4 t1 s) := os
  obtain ⟨aos, caps, rfl, _⟩ := id os
  clear os ss1 ms1
  have C4 : Hid _ := Minus_any _ _ a b w4 Ra4.out Rb4.out (by omega)
  go_wp2_with fail
  refine Calls.mono C4.out ?_
  rintro e w5 ⟨v2, m2, rfl, om2, hm2, b5⟩
  have bb5 := b5
  have Os5 : Hid (Own encP 2 w3.heap.size w5 _ s) := Os4.out.below b5
  clear Os4
  have Ra5 : Hid (Row encP 2 w5 _ a) := Ra4.out.below b5
  have Rb5 : Hid (Row encP 2 w5 _ b) := Rb4.out.below b5
  have Rc5 : Hid (Row encC 3 w5 _ c) := Rc4.out.below b5
  have B5 : Hid (Below w.heap.size w w5) := B4.out.trans (b5.mono B4.out.size)
  clear Ra4 Rb4 Rc4 B4 b5 C4
  have D5 : Hid (Below w3.heap.size w3 w5) := D4.out.trans (bb5.mono D4.out.size)
  clear D4 bb5
  obtain ⟨x2, y2, rfl, _⟩ := id om2
  clear om2 hm2
  have C5 : Hid _ := Diff_any _ _ a b w5 Ra5.out Rb5.out (by omega)
  go_wp2_with fail
  refine Calls.mono C5.out ?_
  rintro e w6 ⟨v3, d3, rfl, od3, hd3, ld3, b6⟩
  have bb6 := b6
  have Os6 : Hid (Own encP 2 w3.heap.size w6 _ s) := Os5.out.below b6
  clear Os5
  have Ra6 : Hid (Row encP 2 w6 _ a) := Ra5.out.below b6
  have Rb6 : Hid (Row encP 2 w6 _ b) := Rb5.out.below b6
  have Rc6 : Hid (Row encC 3 w6 _ c) := Rc5.out.below b6
  have B6 : Hid (Below w.heap.size w w6) := B5.out.trans (b6.mono B5.out.size)
  clear Ra5 Rb5 Rc5 B5 b6 C5
  have D6 : Hid (Below w3.heap.size w3 w6) := D5.out.trans (bb6.mono D5.out.size)
  clear D5 bb6
  obtain ⟨x3, y3, rfl, _⟩ := id od3
  clear od3 hd3 ld3
  have DQ := D6
  obtain ⟨b0, f0, hb0, _, _⟩ := own_free Os6.out
  have C6 : Hid _ := Apply_any _ _ a c w6 Ra6.out Rc6.out (by omega)
  go_wp2_with fail
  refine Calls.mono C6.out ?_
  rintro e w7 ⟨v4, r, rfl, or4, hr4, b7⟩
  have bb7 := b7
  have Os7 : Hid (Own encP 2 w3.heap.size w7 _ s) := Os6.out.below b7
  clear Os6
  have Ra7 : Hid (Row encP 2 w7 _ a) := Ra6.out.below b7
  have Rb7 : Hid (Row encP 2 w7 _ b) := Rb6.out.below b7
  have Rc7 : Hid (Row encC 3 w7 _ c) := Rc6.out.below b7
  have B7 : Hid (Below w.heap.size w w7) := B6.out.trans (b7.mono B6.out.size)
  clear Ra6 Rb6 Rc6 B6 b7 C6
  have D7 : Hid (Below w3.heap.size w3 w7) := D6.out.trans (bb7.mono D6.out.size)
  clear D6 bb7
  have lr := applyOf_length hr4
  have hrl : r.length ≤ 120 := by omega
  have hsl : s.length ≤ 60 := by omega
  have zq : w3.heap.size ≤ w6.heap.size := DQ.out.size
  have OR : Hid (Own encP 2 w6.heap.size w7 v4 r) := or4
  obtain ⟨aor, capr, rfl, _⟩ := id or4
  clear or4 hr4 lr ls1
  obtain ⟨bs, fs, hs1, hs2, hs4⟩ := own_free Os7.out
  obtain ⟨br, fr, hr1, hr2, hr4⟩ := own_free OR.out
  have hbs : 0 < s.length → bs < w6.heap.size := fun h => by have e := (hs1 h).1.symm.trans (hb0 h).1; have l := (hb0 h).2; cases e; exact l
  have HBS : Hid (0 < s.length → bs ≠ br) := fun h => by have := hbs h; omega
  have HS1 : Hid (0 < s.length → aos = some ⟨bs, fs, none⟩ ∧ bs < w7.heap.size) := hs1
  have HR1 : Hid (0 < r.length → aor = some ⟨br, fr, none⟩ ∧ br < w7.heap.size) := hr1
  have Hfs : Aside (Free w7 bs fs (s.length * 2)) := hs4
  have FR : Aside (Free w7 br fr (r.length * 2)) := hr4
  have hbr : w3.heap.size ≤ br := Nat.le_trans zq hr2
  clear hs1 hr1 hs4 hr4 hbs hb0 hr2 zq Os7 OR Ra7 Rb7 Rc7 B7
  go_wp2
  go_loopg [12] s.length (fun kx sx wr => ∃ (i : Nat), sx = .int .i64 i ∧ i ≤ s.length ∧ s.length - i ≤ kx ∧ Hid (Only bs w7 wr) ∧ Hid (s.length = 0 → wr = w7) ∧ Aside (Free wr bs fs (s.length * 2)))
  case atStart => exact ⟨0, rfl, Nat.zero_le _, Nat.le_refl _, Only.refl _ _, fun _ => rfl, Hfs⟩
  case round =>
    obtain ⟨i, rfl, hi, hki, HO, HZ, HF⟩ := hrel
    obtain ⟨w20, hw⟩ : ∃ W, W = wr := ⟨_, rfl⟩
    subst hw
    by_cases hil : i < s.length
    · have hilz : (i : Int) < (s.length : Int) := by omega
      obtain ⟨rfl, hbb⟩ := HS1.out (by omega)
      obtain ⟨⟨u0, e0⟩, g0⟩ := HF.out (i * 2) (by omega)
      obtain ⟨⟨u1, e1⟩, g1⟩ := HF.out (i * 2 + 1) (by omega)
      rw [← Nat.add_assoc] at e1 g1
      have HF2 : Aside (Free ((w20.setCell ⟨bs, fs + i * 2, none⟩ (.int .i64 (-1))).setCell ⟨bs, fs + i * 2 + 1, none⟩ (.int .i64 (-1))) bs fs (s.length * 2)) := (HF.out.set (i * 2) _).set (i * 2 + 1) _
      have HO2 : Hid (Only bs w7 ((w20.setCell ⟨bs, fs + i * 2, none⟩ (.int .i64 (-1))).setCell ⟨bs, fs + i * 2 + 1, none⟩ (.int .i64 (-1)))) := (HO.out.trans (Only.setCell _ _ _ _)).trans (Only.setCell _ _ _ _)
      clear HF HO HZ
      go_wp2
      go_roundg (s.length - (i + 1))
      case measure => omega
      case rel => exact ⟨i + 1, by go_num, by omega, Nat.le_refl _, HO2, fun h => by omega, HF2⟩
    · have hilz : ¬ (i : Int) < (s.length : Int) := by omega
      obtain rfl : i = s.length := by omega
      have OA : Hid (Only bs w7 w20) := HO
      have ZOA : Hid (s.length = 0 → w20 = w7) := HZ
      clear HO HF HZ
      have FR2 : Aside (Free w20 br fr (r.length * 2)) := by
        rcases Nat.eq_zero_or_pos s.length with h | h
        · rw [ZOA.out h]; exact FR
        · exact Free.other FR.out (OA.out.block br (Ne.symm (HBS.out h)))
      go_wp2
      go_loopg [13] r.length (fun kx sx wr => ∃ (i : Nat), sx = .int .i64 i ∧ i ≤ r.length ∧ r.length - i ≤ kx ∧ Hid (Only br w20 wr) ∧ Hid (r.length = 0 → wr = w20) ∧ Aside (Free wr br fr (r.length * 2)))
      case atStart => exact ⟨0, rfl, Nat.zero_le _, Nat.le_refl _, Only.refl _ _, fun _ => rfl, FR2⟩
      case round =>
        obtain ⟨i, rfl, hi, hki, HO, HZ, HF⟩ := hrel
        obtain ⟨w21, hw⟩ : ∃ W, W = wr := ⟨_, rfl⟩
        subst hw
        by_cases hil : i < r.length
        · have hilz : (i : Int) < (r.length : Int) := by omega
          obtain ⟨rfl, hbb⟩ := HR1.out (by omega)
          obtain ⟨⟨u0, e0⟩, g0⟩ := HF.out (i * 2) (by omega)
          obtain ⟨⟨u1, e1⟩, g1⟩ := HF.out (i * 2 + 1) (by omega)
          rw [← Nat.add_assoc] at e1 g1
          have HF2 : Aside (Free ((w21.setCell ⟨br, fr + i * 2, none⟩ (.int .i64 (-1))).setCell ⟨br, fr + i * 2 + 1, none⟩ (.int .i64 (-1))) br fr (r.length * 2)) := (HF.out.set (i * 2) _).set (i * 2 + 1) _
          have HO2 : Hid (Only br w20 ((w21.setCell ⟨br, fr + i * 2, none⟩ (.int .i64 (-1))).setCell ⟨br, fr + i * 2 + 1, none⟩ (.int .i64 (-1)))) := (HO.out.trans (Only.setCell _ _ _ _)).trans (Only.setCell _ _ _ _)
          clear HF HO HZ
          go_wp2
          go_roundg (r.length - (i + 1))
          case measure => omega
          case rel => exact ⟨i + 1, by go_num, by omega, Nat.le_refl _, HO2, fun h => by omega, HF2⟩
        · have hilz : ¬ (i : Int) < (r.length : Int) := by omega
          obtain rfl : i = r.length := by omega
          have OB : Hid (Only br w20 w21) := HO
          have ZOB : Hid (r.length = 0 → w21 = w20) := HZ
          clear HO HF HZ
          have KK : Hid (Below w3.heap.size w3 w21) := (D7.out.trans (OA.out.below hs2)).trans (OB.out.below hbr)
          have BF : Hid (Below w.heap.size w w21) := BQ.out.trans (KK.out.mono BQ.out.size)
          have SA := same_any _ _ a a w21 (Qa.out.below KK.out) (Qx.out.below KK.out) (by omega) (by omega)
          rw [decide_eq_true rfl] at SA
          have CA : Hid _ := SA
          clear SA
          go_wp2_with fail
          refine Calls.mono CA.out ?_
          rintro e w22 ⟨rfl, b22⟩
          have KL : Hid (Below w3.heap.size w3 w22) := KK.out.trans (b22.mono KK.out.size)
          have SB := same_any _ _ b b w22 (Qb.out.below KL.out) (Qy.out.below KL.out) (by omega) (by omega)
          rw [decide_eq_true rfl] at SB
          have CB : Hid _ := SB
          clear SB
          go_wp2_with fail
          refine Calls.mono CB.out ?_
          rintro e w23 ⟨rfl, b23⟩
          go_wp2
          go_ret
          have h1 := BF.out.size
          have h2 := b22.size
          exact ⟨rfl, (BF.out.trans (b22.mono h1)).trans (b23.mono (by omega))⟩

theorem walk (va : Value) (a : List Pr) (vb : Value) (b : List Pr) (vc : Value) (c : List Ch) (w : World) (ha : Row encP 2 w va a) (hb : Row encP 2 w vb b) (hc : Row encC 3 w vc c) : Calls Try.prog 8 #[va, vb, vc] w fun e w' => e = .returned (.bool true) ∧ Below w.heap.size w w' := by
  by_cases la : a.length ≤ 60
  rotate_left
  · exact long_a va a vb b vc c w ha hb hc  (by omega)
  by_cases lb : b.length ≤ 60
  rotate_left
  · exact long_b va a vb b vc c w ha hb hc la (by omega)
  by_cases lc : c.length ≤ 60
  · exact short va a vb b vc c w ha hb hc la lb lc
  · exact long_c va a vb b vc c w ha hb hc la lb (by omega)
end edgeKept
end Go.Proofs.Ytifeeneojlhffaa

/-
  The walk of the law EdgeSets.
-/
import Derived.Test.YtifeeneojlhffabEdWorks
import Derived.Test.YtifeeneojlhffabApp
namespace Go.Proofs.Ytifeeneojlhffab
open Go.Shelf Go.RowKit Go.Lib Go.Sort
namespace edgeSets
set_option maxRecDepth 100000 in
set_option maxHeartbeats 1000000 in
theorem long_a (va : Value) (a : List Pr) (vb : Value) (b : List Pr) (p : Pr) (w : World) (ha : Row encP 2 w va a) (hb : Row encP 2 w vb b) (la : 60 < a.length) : Calls Try.prog 3 #[va, vb, .agg #[.int .i64 p.1, .int .i64 p.2]] w fun e w' => e = .returned (.bool true) ∧ Below w.heap.size w w' := by
  obtain ⟨aoa, capa, rfl, _⟩ := id ha
  obtain ⟨aob, capb, rfl, _⟩ := id hb
  have ia : (60 : Int) < (a.length : Int) := by omega
  clear ha hb
  go_enter Try.func3, Try.ntmps3
  go_wp2_with fail
  refine (works_any _).mono ?_
  rintro e w1 ⟨rfl, b1⟩
  go_wp2
  go_ret
  exact ⟨rfl, ((Below.refl _ w).alloc (Nat.le_refl _) _).trans (b1.mono (by simp))⟩

set_option maxRecDepth 100000 in
set_option maxHeartbeats 1000000 in
theorem long_b (va : Value) (a : List Pr) (vb : Value) (b : List Pr) (p : Pr) (w : World) (ha : Row encP 2 w va a) (hb : Row encP 2 w vb b) (la : a.length ≤ 60) (lb : 60 < b.length) : Calls Try.prog 3 #[va, vb, .agg #[.int .i64 p.1, .int .i64 p.2]] w fun e w' => e = .returned (.bool true) ∧ Below w.heap.size w w' := by
  obtain ⟨aoa, capa, rfl, _⟩ := id ha
  obtain ⟨aob, capb, rfl, _⟩ := id hb
  have ia : ¬ (60 : Int) < (a.length : Int) := by omega
  have ib : (60 : Int) < (b.length : Int) := by omega
  clear ha hb
  go_enter Try.func3, Try.ntmps3
  go_wp2_with fail
  refine (works_any _).mono ?_
  rintro e w1 ⟨rfl, b1⟩
  go_wp2
  go_ret
  exact ⟨rfl, ((Below.refl _ w).alloc (Nat.le_refl _) _).trans (b1.mono (by simp))⟩

set_option maxRecDepth 100000 in
set_option maxHeartbeats 8000000 in
theorem short (va : Value) (a : List Pr) (vb : Value) (b : List Pr) (p : Pr) (w : World) (ha : Row encP 2 w va a) (hb : Row encP 2 w vb b) (la : a.length ≤ 60) (lb : b.length ≤ 60) : Calls Try.prog 3 #[va, vb, .agg #[.int .i64 p.1, .int .i64 p.2]] w fun e w' => e = .returned (.bool true) ∧ Below w.heap.size w w' := by
  have BX : Below w.heap.size w (w.alloc (.cells #[.int .i64 p.1, .int .i64 p.2] 24)) := (Below.refl _ w).alloc (Nat.le_refl _) _
  have Ra0 : Hid (Row encP 2 (w.alloc (.cells #[.int .i64 p.1, .int .i64 p.2] 24)) va a) := ha.below BX
  have Rb0 : Hid (Row encP 2 (w.alloc (.cells #[.int .i64 p.1, .int .i64 p.2] 24)) vb b) := hb.below BX
  have B0 : Hid (Below w.heap.size w (w.alloc (.cells #[.int .i64 p.1, .int .i64 p.2] 24))) := BX
  have p0 : (w.alloc (.cells #[.int .i64 p.1, .int .i64 p.2] 24)).cell? ⟨w.heap.size, 0, none⟩ = some (.int .i64 p.1) := by simp
  have p1 : (w.alloc (.cells #[.int .i64 p.1, .int .i64 p.2] 24)).cell? ⟨w.heap.size, 1, none⟩ = some (.int .i64 p.2) := by simp
  have hz : w.heap.size + 1 ≤ (w.alloc (.cells #[.int .i64 p.1, .int .i64 p.2] 24)).heap.size := by simp
  obtain ⟨aoa, capa, rfl, _⟩ := id ha
  obtain ⟨aob, capb, rfl, _⟩ := id hb
  have ia : ¬ (60 : Int) < (a.length : Int) := by omega
  have ib : ¬ (60 : Int) < (b.length : Int) := by omega
  clear ha hb BX
  go_enter Try.func3, Try.ntmps3
  go_wp2_with fail
  generalize w.alloc (.cells #[.int .i64 p.1, .int .i64 p.2] 24) = w0 at Ra0 Rb0 B0 p0 p1 hz ⊢
  have PC : Aside (∀ W, Below w0.heap.size w0 W → W.cell? ⟨w.heap.size, 0, none⟩ = some (.int .i64 p.1) ∧ W.cell? ⟨w.heap.size, 1, none⟩ = some (.int .i64 p.2)) := fun W hW => ⟨by rw [hW.cell (p := ⟨w.heap.size, 0, none⟩) (by simp; omega)]; exact p0, by rw [hW.cell (p := ⟨w.heap.size, 1, none⟩) (by simp; omega)]; exact p1⟩
  clear p0 p1
  refine Calls.mono (works_any w0) ?_
  rintro e w1 ⟨rfl, b1⟩
  have Ra1 : Hid (Row encP 2 w1 _ a) := Ra0.out.below b1
  have Rb1 : Hid (Row encP 2 w1 _ b) := Rb0.out.below b1
  have B1 : Hid (Below w.heap.size w w1) := B0.out.trans (b1.mono B0.out.size)
  have D1 : Hid (Below w0.heap.size w0 w1) := b1
  clear Ra0 Rb0 B0 b1
  go_wp2_with (at_builtin; refine app_rowP rfl _ _ rfl w1.heap.size _ [] rfl (OwnP.empty _ _) _ a rfl (Ra1.out.below (Below.refl w1.heap.size w1)) (by simp only [List.length_nil]; omega) ((Below.refl w1.heap.size w1).size) a (List.nil_append a) ?_)
  intro ax2 nx2 cx2 w2 HO2 HB2
  have OX2 : Aside (OwnP w1.heap.size w2 (.slice ax2 nx2 cx2) a) := HO2
  have K2 : Hid (Below w1.heap.size w1 w2) := HB2 _ (Below.refl w1.heap.size w1)
  clear HO2 HB2
  obtain ⟨xL1, hxL1⟩ : ∃ L, a ++ b = L := ⟨_, rfl⟩
  have HxL1 : Hid (a ++ b = xL1) := hxL1
  have lenxL1 : xL1.length = a.length + b.length := by rw [← hxL1, List.length_append]
  have lzxL1 : xL1.length ≤ a.length + b.length := Nat.le_of_eq lenxL1
  clear hxL1 lenxL1
  go_wp2_with (at_builtin; refine app_rowP rfl _ _ rfl w1.heap.size _ a rfl OX2.out _ b rfl (Rb1.out.below K2.out) (by omega) (K2.out.size) xL1 HxL1.out ?_)
  intro ax3 nx3 cx3 w3 HO3 HB3
  have OX3 : Aside (OwnP w1.heap.size w3 (.slice ax3 nx3 cx3) xL1) := HO3
  have K3 : Hid (Below w1.heap.size w1 w3) := HB3 _ K2.out
  clear HO3 HB3
  have Ra3 : Hid (Row encP 2 w3 _ a) := Ra1.out.below K3.out
  have Rb3 : Hid (Row encP 2 w3 _ b) := Rb1.out.below K3.out
  have B3 : Hid (Below w.heap.size w w3) := B1.out.trans (K3.out.mono B1.out.size)
  have D3 : Hid (Below w0.heap.size w0 w3) := D1.out.trans (K3.out.mono D1.out.size)
  clear D1
  have ox := OX3.out.own
  have Rx3 : Hid (Row encP 2 w3 _ xL1) := ox.row
  obtain ⟨xx, yx, ezx, _⟩ := id ox
  cases ezx
  clear Ra1 Rb1 B1 ox OX2 K2 OX3 K3
  go_wp2_with (at_builtin; refine app_rowP rfl _ _ rfl w3.heap.size _ [] rfl (OwnP.empty _ _) _ b rfl (Rb3.out.below (Below.refl w3.heap.size w3)) (by simp only [List.length_nil]; omega) ((Below.refl w3.heap.size w3).size) b (List.nil_append b) ?_)
  intro ax4 nx4 cx4 w4 HO4 HB4
  have OX4 : Aside (OwnP w3.heap.size w4 (.slice ax4 nx4 cx4) b) := HO4
  have K4 : Hid (Below w3.heap.size w3 w4) := HB4 _ (Below.refl w3.heap.size w3)
  clear HO4 HB4
  obtain ⟨yL1, hyL1⟩ : ∃ L, b ++ a = L := ⟨_, rfl⟩
  have HyL1 : Hid (b ++ a = yL1) := hyL1
  have lenyL1 : yL1.length = b.length + a.length := by rw [← hyL1, List.length_append]
  have lzyL1 : yL1.length ≤ b.length + a.length := Nat.le_of_eq lenyL1
  clear hyL1 lenyL1
  go_wp2_with (at_builtin; refine app_rowP rfl _ _ rfl w3.heap.size _ b rfl OX4.out _ a rfl (Ra3.out.below K4.out) (by omega) (K4.out.size) yL1 HyL1.out ?_)
  intro ax5 nx5 cx5 w5 HO5 HB5
  have OX5 : Aside (OwnP w3.heap.size w5 (.slice ax5 nx5 cx5) yL1) := HO5
  have K5 : Hid (Below w3.heap.size w3 w5) := HB5 _ K4.out
  clear HO5 HB5
  obtain ⟨yL2, hyL2⟩ : ∃ L, yL1 ++ a = L := ⟨_, rfl⟩
  have HyL2 : Hid (yL1 ++ a = yL2) := hyL2
  have lenyL2 : yL2.length = yL1.length + a.length := by rw [← hyL2, List.length_append]
  have lzyL2 : yL2.length ≤ yL1.length + a.length := Nat.le_of_eq lenyL2
  clear hyL2 lenyL2
  go_wp2_with (at_builtin; refine app_rowP rfl _ _ rfl w3.heap.size _ yL1 rfl OX5.out _ a rfl (Ra3.out.below K5.out) (by omega) (K5.out.size) yL2 HyL2.out ?_)
  intro ax6 nx6 cx6 w6 HO6 HB6
  have OX6 : Aside (OwnP w3.heap.size w6 (.slice ax6 nx6 cx6) yL2) := HO6
  have K6 : Hid (Below w3.heap.size w3 w6) := HB6 _ K5.out
  clear HO6 HB6
  have Ra6 : Hid (Row encP 2 w6 _ a) := Ra3.out.below K6.out
  have Rb6 : Hid (Row encP 2 w6 _ b) := Rb3.out.below K6.out
  have Rx6 : Hid (Row encP 2 w6 _ xL1) := Rx3.out.below K6.out
  have B6 : Hid (Below w.heap.size w w6) := B3.out.trans (K6.out.mono B3.out.size)
  have D6 : Hid (Below w0.heap.size w0 w6) := D3.out.trans (K6.out.mono D3.out.size)
  clear D3
  have oy := OX6.out.own
  have Ry6 : Hid (Row encP 2 w6 _ yL2) := oy.row
  obtain ⟨xy, yy, ezy, _⟩ := id oy
  cases ezy
  clear Ra3 Rb3 Rx3 B3 oy OX4 K4 OX5 K5 OX6 K6
  have C6 : Hid _ := sort_any _ xL1 w6 Rx6.out (by omega)
  go_wp2_with fail
  refine Calls.mono C6.out ?_
  rintro e w7 ⟨t1, s1, rfl, os1, ss1, ls1, ms1, b7⟩
  have bb7 := b7
  have Ra7 : Hid (Row encP 2 w7 _ a) := Ra6.out.below b7
  have Rb7 : Hid (Row encP 2 w7 _ b) := Rb6.out.below b7
  have Rx7 : Hid (Row encP 2 w7 _ xL1) := Rx6.out.below b7
  have Ry7 : Hid (Row encP 2 w7 _ yL2) := Ry6.out.below b7
  have B7 : Hid (Below w.heap.size w w7) := B6.out.trans (b7.mono B6.out.size)
  clear Ra6 Rb6 Rx6 Ry6 B6 b7 C6
  have Rs17 : Hid (Row encP 2 w7 t1 s1) := os1.row
  obtain ⟨xs1, ys1, rfl, _⟩ := id os1
  clear os1
  have D7 : Hid (Below w0.heap.size w0 w7) := D6.out.trans (bb7.mono D6.out.size)
  clear D6 bb7
  have C7 : Hid _ := sort_any _ yL2 w7 Ry7.out (by omega)
  go_wp2_with fail
  refine Calls.mono C7.out ?_
  rintro e w8 ⟨t2, s2, rfl, os2, ss2, ls2, ms2, b8⟩
  have bb8 := b8
  have Ra8 : Hid (Row encP 2 w8 _ a) := Ra7.out.below b8
  have Rb8 : Hid (Row encP 2 w8 _ b) := Rb7.out.below b8
  have Rx8 : Hid (Row encP 2 w8 _ xL1) := Rx7.out.below b8
  have Ry8 : Hid (Row encP 2 w8 _ yL2) := Ry7.out.below b8
  have Rs18 : Hid (Row encP 2 w8 _ s1) := Rs17.out.below b8
  have B8 : Hid (Below w.heap.size w w8) := B7.out.trans (b8.mono B7.out.size)
  clear Ra7 Rb7 Rx7 Ry7 Rs17 B7 b8 C7
  have Rs28 : Hid (Row encP 2 w8 t2 s2) := os2.row
  obtain ⟨xs2, ys2, rfl, _⟩ := id os2
  clear os2
  have D8 : Hid (Below w0.heap.size w0 w8) := D7.out.trans (bb8.mono D7.out.size)
  clear D7 bb8
  have E1 : Hid (s1 = s2) := ss_ext _ _ ss1 ss2 fun x => by rw [ms1 x, ms2 x, ← HyL2.out, ← HyL1.out, ← HxL1.out]; rw [List.mem_append, List.mem_append, List.mem_append]; exact ⟨fun h => h.elim (fun h => Or.inr h) (fun h => Or.inl (Or.inl h)), fun h => h.elim (fun h => h.elim Or.inr Or.inl) Or.inl⟩
  have S0 := same_any _ _ s1 s2 w8 Rs18.out Rs28.out (by omega) (by omega)
  rw [decide_eq_true E1.out] at S0
  have C8 : Hid _ := S0
  clear S0
  go_wp2_with fail
  refine Calls.mono C8.out ?_
  rintro e w9 ⟨rfl, b9⟩
  have bb9 := b9
  have Ra9 : Hid (Row encP 2 w9 _ a) := Ra8.out.below b9
  have Rb9 : Hid (Row encP 2 w9 _ b) := Rb8.out.below b9
  have Rx9 : Hid (Row encP 2 w9 _ xL1) := Rx8.out.below b9
  have Ry9 : Hid (Row encP 2 w9 _ yL2) := Ry8.out.below b9
  have Rs19 : Hid (Row encP 2 w9 _ s1) := Rs18.out.below b9
  have Rs29 : Hid (Row encP 2 w9 _ s2) := Rs28.out.below b9
  have B9 : Hid (Below w.heap.size w w9) := B8.out.trans (b9.mono B8.out.size)
  clear Ra8 Rb8 Rx8 Ry8 Rs18 Rs28 B8 b9 C8
  have D9 : Hid (Below w0.heap.size w0 w9) := D8.out.trans (bb9.mono D8.out.size)
  clear D8 bb9
  clear Rx9 Ry9 Rs19 Rs29
  clear E1 ss1 ss2 ms1 ms2 HyL2 HyL1 HxL1
  have C9 : Hid _ := Minus_any _ _ a b w9 Ra9.out Rb9.out (by omega)
  go_wp2_with fail
  refine Calls.mono C9.out ?_
  rintro e w10 ⟨v3, m3, rfl, om3, hm3, b10⟩
  have bb10 := b10
  have Ra10 : Hid (Row encP 2 w10 _ a) := Ra9.out.below b10
  have Rb10 : Hid (Row encP 2 w10 _ b) := Rb9.out.below b10
  have B10 : Hid (Below w.heap.size w w10) := B9.out.trans (b10.mono B9.out.size)
  clear Ra9 Rb9 B9 b10 C9
  have Rm310 : Hid (Row encP 2 w10 v3 m3) := om3.row
  obtain ⟨xm3, ym3, rfl, _⟩ := id om3
  clear om3
  have D10 : Hid (Below w0.heap.size w0 w10) := D9.out.trans (bb10.mono D9.out.size)
  clear D9 bb10
  have lm3 : m3.length ≤ 60 := by
    have h := (putAll_spec a [] SS.nil)
    have h2 : m3 = (sortL a).filter fun x => !decide (x ∈ b) := ss_ext _ _ hm3.1 (List.Pairwise.filter _ (sortL_spec a).1) fun x => by rw [hm3.2 x, List.mem_filter, (sortL_spec a).2.1 x]; simp
    rw [h2]
    exact Nat.le_trans (List.length_filter_le _ _) (Nat.le_trans (sortL_spec a).2.2 la)
  obtain ⟨fa, hfa⟩ : ∃ f, decide (p ∈ a) = f := ⟨_, rfl⟩
  obtain ⟨fb, hfb⟩ : ∃ f, decide (p ∈ b) = f := ⟨_, rfl⟩
  have HM : Hid (decide (p ∈ m3) = (fa && !fb)) := by
    show _ = _
    rw [← hfa, ← hfb, Bool.eq_iff_iff]
    simp [hm3.2 p]
  have HA : Hid (decide (p ∈ a) = fa) := hfa
  have HF : Hid (decide (p ∈ b) = fb) := hfb
  clear hfa hfb hm3
  obtain ⟨pa10, pb10⟩ := PC.out w10 D10.out
  have S0 := has_any _ m3 p w10 Rm310.out (by omega)
  rw [HM.out] at S0
  replace S0 := Calls.mono S0 fun e w' h => (⟨h.1, GR.below h.2⟩ : e = .returned (.bool (fa && !fb)) ∧ Below w10.heap.size w10 w')
  have C10 : Hid _ := S0
  clear S0
  go_wp2_with fail
  refine Calls.mono C10.out ?_
  rintro e w11 ⟨rfl, b11⟩
  have bb11 := b11
  have Ra11 : Hid (Row encP 2 w11 _ a) := Ra10.out.below b11
  have Rb11 : Hid (Row encP 2 w11 _ b) := Rb10.out.below b11
  have Rm311 : Hid (Row encP 2 w11 _ m3) := Rm310.out.below b11
  have B11 : Hid (Below w.heap.size w w11) := B10.out.trans (b11.mono B10.out.size)
  clear Ra10 Rb10 Rm310 B10 b11 C10
  have D11 : Hid (Below w0.heap.size w0 w11) := D10.out.trans (bb11.mono D10.out.size)
  clear D10 bb11
  clear pa10 pb10
  clear Rm311
  obtain ⟨pa11, pb11⟩ := PC.out w11 D11.out
  have S0 := has_any _ a p w11 Ra11.out (by omega)
  rw [HA.out] at S0
  replace S0 := Calls.mono S0 fun e w' h => (⟨h.1, GR.below h.2⟩ : e = .returned (.bool (fa)) ∧ Below w11.heap.size w11 w')
  have C11 : Hid _ := S0
  clear S0
  go_wp2_with fail
  refine Calls.mono C11.out ?_
  rintro e w12 ⟨rfl, b12⟩
  have bb12 := b12
  have Ra12 : Hid (Row encP 2 w12 _ a) := Ra11.out.below b12
  have Rb12 : Hid (Row encP 2 w12 _ b) := Rb11.out.below b12
  have B12 : Hid (Below w.heap.size w w12) := B11.out.trans (b12.mono B11.out.size)
  clear Ra11 Rb11 B11 b12 C11
  have D12 : Hid (Below w0.heap.size w0 w12) := D11.out.trans (bb12.mono D11.out.size)
  clear D11 bb12
  clear pa11 pb11
  obtain ⟨pa12, pb12⟩ := PC.out w12 D12.out
  have S0 := has_any _ b p w12 Rb12.out (by omega)
  rw [HF.out] at S0
  replace S0 := Calls.mono S0 fun e w' h => (⟨h.1, GR.below h.2⟩ : e = .returned (.bool (fb)) ∧ Below w12.heap.size w12 w')
  have C12 : Hid _ := S0
  clear S0
  go_wp2_with fail
  refine Calls.mono C12.out ?_
  rintro e w13 ⟨rfl, b13⟩
  have bb13 := b13
  have Ra13 : Hid (Row encP 2 w13 _ a) := Ra12.out.below b13
  have Rb13 : Hid (Row encP 2 w13 _ b) := Rb12.out.below b13
  have B13 : Hid (Below w.heap.size w w13) := B12.out.trans (b13.mono B12.out.size)
  clear Ra12 Rb12 B12 b13 C12
  have D13 : Hid (Below w0.heap.size w0 w13) := D12.out.trans (bb13.mono D12.out.size)
  clear D12 bb13
  clear pa12 pb12
  have C13 : Hid _ := sort_any _ a w13 Ra13.out (by omega)
  go_wp2_with fail
  refine Calls.mono C13.out ?_
  rintro e w14 ⟨t4, s4, rfl, os4, ss4, ls4, ms4, b14⟩
  have bb14 := b14
  have Ra14 : Hid (Row encP 2 w14 _ a) := Ra13.out.below b14
  have Rb14 : Hid (Row encP 2 w14 _ b) := Rb13.out.below b14
  have B14 : Hid (Below w.heap.size w w14) := B13.out.trans (b14.mono B13.out.size)
  clear Ra13 Rb13 B13 b14 C13
  have Rs414 : Hid (Row encP 2 w14 t4 s4) := os4.row
  obtain ⟨xs4, ys4, rfl, _⟩ := id os4
  clear os4
  have D14 : Hid (Below w0.heap.size w0 w14) := D13.out.trans (bb14.mono D13.out.size)
  clear D13 bb14
  have C14 : Hid _ := sort_any _ s4 w14 Rs414.out (by omega)
  go_wp2_with fail
  refine Calls.mono C14.out ?_
  rintro e w15 ⟨t5, s5, rfl, os5, ss5, ls5, ms5, b15⟩
  have bb15 := b15
  have Ra15 : Hid (Row encP 2 w15 _ a) := Ra14.out.below b15
  have Rb15 : Hid (Row encP 2 w15 _ b) := Rb14.out.below b15
  have Rs415 : Hid (Row encP 2 w15 _ s4) := Rs414.out.below b15
  have B15 : Hid (Below w.heap.size w w15) := B14.out.trans (b15.mono B14.out.size)
  clear Ra14 Rb14 Rs414 B14 b15 C14
  have Rs515 : Hid (Row encP 2 w15 t5 s5) := os5.row
  obtain ⟨xs5, ys5, rfl, _⟩ := id os5
  clear os5
  have D15 : Hid (Below w0.heap.size w0 w15) := D14.out.trans (bb15.mono D14.out.size)
  clear D14 bb15
  have E5 : Hid (s5 = s4) := ss_ext _ _ ss5 ss4 ms5
  have S0 := same_any _ _ s5 s4 w15 Rs515.out Rs415.out (by omega) (by omega)
  rw [decide_eq_true E5.out] at S0
  have C15 : Hid _ := S0
  clear S0
  go_wp2_with fail
  refine Calls.mono C15.out ?_
  rintro e w16 ⟨rfl, b16⟩
  have bb16 := b16
  have Ra16 : Hid (Row encP 2 w16 _ a) := Ra15.out.below b16
  have Rb16 : Hid (Row encP 2 w16 _ b) := Rb15.out.below b16
  have Rs416 : Hid (Row encP 2 w16 _ s4) := Rs415.out.below b16
  have Rs516 : Hid (Row encP 2 w16 _ s5) := Rs515.out.below b16
  have B16 : Hid (Below w.heap.size w w16) := B15.out.trans (b16.mono B15.out.size)
  clear Ra15 Rb15 Rs415 Rs515 B15 b16 C15
  have D16 : Hid (Below w0.heap.size w0 w16) := D15.out.trans (bb16.mono D15.out.size)
  clear D15 bb16
  clear Rs516
  have HS4 : Hid (decide (p ∈ s4) = fa) := by rw [← HA.out]; show _ = _; rw [decide_eq_decide]; exact ms4 p
  clear E5 ss4 ss5 ms4 ms5
  obtain ⟨pa16, pb16⟩ := PC.out w16 D16.out
  have S0 := has_any _ s4 p w16 Rs416.out (by omega)
  rw [HS4.out] at S0
  have C16 : Hid _ := S0
  clear S0
  cases fa <;> cases fb
  all_goals
    go_wp2_with fail
    refine Calls.mono C16.out ?_
    rintro e wz ⟨rfl, hg⟩
    go_wp2
    go_ret
    exact ⟨rfl, B16.out.trans ((GR.below hg).mono B16.out.size)⟩

theorem walk (va : Value) (a : List Pr) (vb : Value) (b : List Pr) (p : Pr) (w : World) (ha : Row encP 2 w va a) (hb : Row encP 2 w vb b) : Calls Try.prog 3 #[va, vb, .agg #[.int .i64 p.1, .int .i64 p.2]] w fun e w' => e = .returned (.bool true) ∧ Below w.heap.size w w' := by
  by_cases la : a.length ≤ 60
  · by_cases lb : b.length ≤ 60
    · exact short va a vb b p w ha hb la lb
    · exact long_b va a vb b p w ha hb la (by omega)
  · exact long_a va a vb b p w ha hb (by omega)
end edgeSets
end Go.Proofs.Ytifeeneojlhffab

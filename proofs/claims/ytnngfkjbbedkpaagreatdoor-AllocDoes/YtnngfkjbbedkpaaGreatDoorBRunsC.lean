/-
  Texts of elder layers, joined: RnConcat, RnRest, RnOps.
-/
import Derived.Test.YtnngfkjbbedkpaaGreatDoorBRunsB
import Derived.Test.YtnngfkjbbedkpaaGreatDoorBRunsA
import Derived.Test.YtnngfkjbbedkpaaGreatDoorBMeet
namespace Go.Proofs.YtnngfkjbbedkpaaGreatDoor

/-! RnConcat -/
section
open Go.Shelf Go.RowKit Go.Lib Go.Sort

theorem run_info : ∃ i0, Tryz.prog.info? 69 = some i0 ∧ i0.zero = some (.agg #[.int .i64 0, .int .i64 0]) ∧ i0.size = 2 ∧ i0.bytes = 16 := info_parts infoPair

/-- slices.Grow of nil: a new row without elements. -/
theorem grow_any (n : Nat) (w : World) (hn : n ≤ 1000000) :
    Calls Tryz.prog 125 #[.slice none 0 0, .int .i64 n] w fun e w' => ∃ ao c, e = .returned (.slice ao 0 c) ∧ OwnP w.heap.size w' (.slice ao 0 c) [] ∧ Below w.heap.size w w' := by
  by_cases h0 : n = 0
  · subst h0
    refine (Any8.slices_Grow_room Tryz.growRun none 0 0 0 w (Nat.le_refl _) (by omega) (by omega) (Nat.le_refl _)).mono ?_
    rintro e w' ⟨rfl, rfl⟩
    exact ⟨none, 0, rfl, OwnP.empty _ _, Below.refl _ _⟩
  · obtain ⟨i0, hi, hz0, hz1, hz2⟩ := run_info
    refine (Any8.slices_Grow_grow Tryz.growRun i0 _ hi hz0 (by omega) none 0 0 n [] w (Nat.le_refl _) (by omega) (by rw [hz2]; omega) (by omega) (by simp) (fun _ => rfl) (fun a h => by cases h)).mono ?_
    rintro e w' ⟨rfl, rfl⟩
    have hG : 0 + n ≤ grownCap w (0 + n) 0 (Tryz.growRun_ren.t 25) := grownCap_ge w _ _ _
    have hG2 := grownCap_le_maxLen w (0 + n) 0 (Tryz.growRun_ren.t 25) (by unfold maxLen; omega)
    refine ⟨_, _, rfl, ⟨by simp [flatK], Or.inr ⟨w.heap.size, grownCap w (0 + n) 0 (Tryz.growRun_ren.t 25), _, rfl, Nat.le_refl _, heap_alloc_new _ _, Nat.zero_le _, hG2, ?_, ?_⟩⟩, ?_⟩
    · generalize grownCap w (0 + n) 0 (Tryz.growRun_ren.t 25) = G at *
      have e : (Value.agg #[Value.int .i64 0, Value.int .i64 0]).cells.size = 2 := rfl
      simp [Builtin.zeroCells, e]
      omega
    · simp [flatK]
    · exact (Below.refl _ w).drew.alloc (Nat.le_refl _) _

set_option maxHeartbeats 4000000 in
set_option maxRecDepth 100000 in
theorem concat_any (c : Nat) (va vb : Value) (a b : List Pr) (w : World) (hc : Cl w c #[va, vb] 22) (ha : Row encP 2 w va a) (hb : Row encP 2 w vb b) (hl : a.length + b.length ≤ 100000) :
    Calls Tryz.prog 102 #[.slice (some ⟨c, 0, none⟩) 2 2] w fun e w' => ∃ v', e = .returned v' ∧ Own encP 2 w.heap.size w' v' (a ++ b) ∧ Below w.heap.size w w' := by
  have RA : Aside (Row encP 2 w va a) := ha
  have RB : Aside (Row encP 2 w vb b) := hb
  obtain ⟨aa, ca, rfl, _⟩ := ha
  obtain ⟨ab, cb, rfl, _⟩ := hb
  have p0 := hc.two.1
  have p1 := hc.two.2
  have HC : Hid (Cl w c #[.slice aa a.length ca, .slice ab b.length cb] 22) := hc
  have e1 : wrap64 (a.length : Int) = a.length := w64 (by omega) (by omega)
  have e2 : wrap64 ((a.length : Int) + (b.length : Int)) = a.length + b.length := w64 (by omega) (by omega)
  have n1 : ¬ (a.length : Int) < 0 := by omega
  have n2 : ¬ (a.length : Int) + (b.length : Int) < 0 := by omega
  have G : Hid (Calls Tryz.prog 125 #[.slice none 0 0, .int .i64 ((a.length : Int) + (b.length : Int))] w fun e w' => ∃ ao c, e = .returned (.slice ao 0 c) ∧ OwnP w.heap.size w' (.slice ao 0 c) [] ∧ Below w.heap.size w w') := by
    show Calls _ _ _ _ _
    have := grow_any (a.length + b.length) w (by omega)
    rw [Int.natCast_add] at this
    exact this
  clear hc
  go_enter Tryz.func102, Tryz.ntmps102
  go_wp2
  refine wp_loop_rounds 3 ?_
  rw [rounds_succ]
  go_wp2
  rw [rounds_succ]
  go_wp2
  rw [rounds_succ]
  go_wp2_with (go_at_call 125; refine Calls.mono G.out ?_; rintro e w1 ⟨ao1, c1, rfl, ho1, hb1⟩)
  have O1 : Aside (OwnP w.heap.size w1 (.slice ao1 0 c1) []) := ho1
  have B1 : Hid (Below w.heap.size w w1) := hb1
  have q0 := (HC.out.on hb1).two.1
  have q1 := (HC.out.on hb1).two.2
  have hs1 := hb1.size
  clear ho1 hb1 p0 p1 G
  refine wp_loop_rounds 3 ?_
  rw [rounds_succ]
  go_wp2_with (at_builtin; refine app_rowP rfl _ _ rfl w.heap.size _ [] rfl O1.out _ a rfl (RA.out.below B1.out) (by simp; omega) hs1 a (List.nil_append a) ?_)
  intro ao2 n2 c2 w2 HO2 HB2
  have O2 : Aside (OwnP w.heap.size w2 (.slice ao2 n2 c2) a) := HO2
  have B2 : Hid (Below w.heap.size w w2) := HB2 _ B1.out
  have q2 := (HC.out.on B2.out).two.2
  have hs2 := B2.out.size
  clear HO2 HB2 O1 B1 q0 q1
  go_wp2
  rw [rounds_succ]
  go_wp2_with (at_builtin; refine app_rowP rfl _ _ rfl w.heap.size _ a rfl O2.out _ b rfl (RB.out.below B2.out) (by omega) hs2 (a ++ b) rfl ?_)
  intro ao3 n3 c3 w3 HO3 HB3
  have O3 : Aside (OwnP w.heap.size w3 (.slice ao3 n3 c3) (a ++ b)) := HO3
  have B3 : Hid (Below w.heap.size w w3) := HB3 _ B2.out
  clear HO3 HB3 O2 B2 q2
  go_wp2
  rw [rounds_succ]
  go_wp2
  go_ret
  exact ⟨_, rfl, O3.out.own, B3.out⟩
end

/-! RnRest -/
section
open Go.Shelf Go.RowKit Go.Lib Go.Sort

set_option maxHeartbeats 4000000 in
set_option maxRecDepth 100000 in
theorem rest_any (v : Value) (s : List Pr) (w : World) (h : Row encP 2 w v s) (hl : s.length ≤ 100000) (hc : Cn s) :
    Calls Tryz.prog 62 #[v] w fun e w' => ∃ v', e = .returned v' ∧ Own encP 2 w.heap.size w' v' (restRL s) ∧ Below w.heap.size w w' := by
  obtain ⟨ao, cap, rfl, h1, h2, h3⟩ := h
  have H3 : Aside (s ≠ [] → ∃ b off, ao = some ⟨b, off, none⟩ ∧ b < w.heap.size ∧ CellsK encP 2 w b off s) := h3
  have HC : Hid (Cn s) := hc
  clear h3 hc
  go_enter Tryz.func62, Tryz.ntmps62
  go_wp2
  go_loopg [3, 4, 9] s.length (fun kx s3 s4 s9 wr => ∃ (i : Nat) (ao' : Option Addr) (n' c' : Nat) (f : Int) (out : List Pr), s3 = .slice ao' n' c' ∧ s4 = .int .i64 f ∧ s9 = .int .i64 i ∧ i ≤ s.length ∧ s.length - i ≤ kx ∧ 0 ≤ f ∧ f ≤ 4294967296 ∧ Aside (OwnP w.heap.size wr (.slice ao' n' c') out) ∧ Hid (Below w.heap.size w wr) ∧ Hid (out ++ restGo f (s.drop i) = restRL s) ∧ out.length ≤ i)
  case atStart => exact ⟨0, none, 0, 0, 0, [], rfl, rfl, rfl, Nat.zero_le _, Nat.le_refl _, by omega, by omega, OwnP.empty _ _, Below.refl _ _, rfl, Nat.le_refl _⟩
  case round =>
    obtain ⟨i, ao', n', c', f, out, rfl, rfl, rfl, hi, hki, f0, f1, HO, HB, HE, hlen⟩ := hrel
    have hsz : w.heap.size ≤ wr.heap.size := HB.out.size
    by_cases hil : i < s.length
    · have hilz : (i : Int) < (s.length : Int) := by omega
      obtain ⟨b, off, rfl, hb, x1, x2⟩ := row_at H3.out i hil HB.out
      have TD : Hid (s.drop i = s[i]! :: s.drop (i + 1)) := drop_here hil
      obtain ⟨y1, y2, y3⟩ := HC.out.1 s[i]! (bang_mem hil)
      generalize s[i]! = x at *
      have e1 : wrap64 (x.1 - 1) = x.1 - 1 := w64 (by omega) (by omega)
      have e2 : wrap64 (x.2 + 1) = x.2 + 1 := w64 (by omega) (by omega)
      by_cases hf : f < x.1
      · have E2 : Hid ((out ++ [(f, x.1 - 1)]) ++ restGo (x.2 + 1) (s.drop (i + 1)) = restRL s) := by
          show _ = _
          rw [← HE.out, TD.out, restGo, if_pos hf, List.append_assoc]; rfl
        have O2 : Aside (OwnP w.heap.size (wr.alloc (.cells #[.int .i64 x.1, .int .i64 x.2] 69)) (.slice ao' n' c') out) := HO.out.alloc _
        have P2 : Hid (Cl (wr.alloc (.cells #[.int .i64 x.1, .int .i64 x.2] 69)) wr.heap.size #[.int .i64 x.1, .int .i64 x.2] 69) := Cl.new _ _ _
        have B2 : Hid (Below w.heap.size w (wr.alloc (.cells #[.int .i64 x.1, .int .i64 x.2] 69))) := HB.out.alloc hsz _
        have NB : Hid ((Value.slice ao' n' c').ownBlock ≠ some wr.heap.size) := HO.out.other (Nat.le_refl _)
        clear HE
        go_upto_region 7 with fail
        clear HO HB x1 x2
        generalize wr.alloc (.cells #[.int .i64 x.1, .int .i64 x.2] 69) = w2 at *
        generalize wr.heap.size = q at *
        have p0 := P2.out.two.1
        have hs2 : w.heap.size ≤ w2.heap.size := B2.out.size
        go_wp2_with (at_builtin; refine app_run rfl _ _ rfl w.heap.size _ out rfl (O2.out.alloc _) w2.heap.size 0 1 rfl (f, x.1 - 1) (by simp) (by simp) (by omega) (by simp; omega) ?_)
        intro ao3 n3 c3 w3 HO3 HB3 HK3
        have O4 : Aside (OwnP w.heap.size w3 (.slice ao3 n3 c3) (out ++ [(f, x.1 - 1)])) := HO3
        have B4 : Hid (Below w.heap.size w w3) := HB3 _ (B2.out.alloc hs2 _)
        have P4 : Cl w3 q #[.int .i64 x.1, .int .i64 x.2] 69 := (HK3 q (by have := P2.out.lt; simp; omega) NB.out).trans (P2.out.alloc _)
        have p41 := P4.two.2
        clear HO3 HB3 HK3 O2 B2 P2 P4 p0
        go_wp2
        go_roundg (s.length - (i + 1))
        case measure => omega
        case rel => exact ⟨i + 1, ao3, n3, c3, x.2 + 1, _, rfl, rfl, by go_num, by omega, Nat.le_refl _, by omega, by omega, O4, B4, E2, by simp; omega⟩
      · have E2 : Hid (out ++ restGo (x.2 + 1) (s.drop (i + 1)) = restRL s) := by
          show _ = _
          rw [← HE.out, TD.out, restGo, if_neg hf]
        have O2 : Aside (OwnP w.heap.size (wr.alloc (.cells #[.int .i64 x.1, .int .i64 x.2] 69)) (.slice ao' n' c') out) := HO.out.alloc _
        have B2 : Hid (Below w.heap.size w (wr.alloc (.cells #[.int .i64 x.1, .int .i64 x.2] 69))) := HB.out.alloc hsz _
        clear HE HO HB
        go_wp2
        go_roundg (s.length - (i + 1))
        case measure => omega
        case rel => exact ⟨i + 1, ao', n', c', x.2 + 1, out, rfl, rfl, by go_num, by omega, Nat.le_refl _, by omega, by omega, O2, B2, E2, by omega⟩
    · have hilz : ¬ (i : Int) < (s.length : Int) := by omega
      obtain rfl : i = s.length := by omega
      rw [List.drop_length] at HE
      by_cases hf : f ≤ 4294967295
      · have E2 : Hid (out ++ [(f, 4294967295)] = restRL s) := by
          show _ = _
          rw [← HE.out, restGo, if_pos hf]
        clear HE
        go_wp2_with (at_builtin; refine app_run rfl _ _ rfl w.heap.size _ out rfl (HO.out.alloc _) wr.heap.size 0 1 rfl (f, 4294967295) (by simp) (by simp) (by omega) (by simp; omega) ?_)
        intro ao3 n3 c3 w3 HO3 HB3 _
        have O4 : Aside (OwnP w.heap.size w3 (.slice ao3 n3 c3) (out ++ [(f, 4294967295)])) := HO3
        have B4 : Hid (Below w.heap.size w w3) := HB3 _ (HB.out.alloc hsz _)
        clear HO3 HB3
        go_wp2
        go_ret
        exact ⟨_, rfl, by rw [← E2.out]; exact O4.out.own, B4.out⟩
      · have E2 : Hid (out = restRL s) := by
          show _ = _
          rw [← HE.out, restGo, if_neg hf, List.append_nil]
        clear HE
        go_wp2
        go_ret
        exact ⟨_, rfl, by rw [← E2.out]; exact HO.out.own, HB.out⟩
end

/-! RnOps -/
section
open Go.Shelf Go.RowKit Go.Lib Go.Sort

/-- What a call answers: a new row that holds l. -/
def Gives (w : World) (l : List Pr) (e : Ending) (w' : World) : Prop := ∃ ao n c, e = .returned (.slice ao n c) ∧ Row encP 2 w' (.slice ao n c) l ∧ Below w.heap.size w w'

theorem gives_of {w : World} {l : List Pr} {e : Ending} {w' : World} (h : ∃ v', e = .returned v' ∧ Own encP 2 w.heap.size w' v' l ∧ Below w.heap.size w w') : Gives w l e w' := by
  obtain ⟨v', rfl, ho, hb⟩ := h
  obtain ⟨ao, c, rfl, _⟩ := id ho
  exact ⟨ao, _, c, rfl, ho.row, hb⟩

theorem gives_row {w : World} {l : List Pr} {e : Ending} {w' : World} (h : ∃ v', e = .returned v' ∧ Row encP 2 w' v' l ∧ Below w.heap.size w w') : Gives w l e w' := by
  obtain ⟨v', rfl, ho, hb⟩ := h
  obtain ⟨ao, c, rfl, _⟩ := id ho
  exact ⟨ao, _, c, rfl, ho, hb⟩

theorem norm_g (v : Value) (l : List Pr) (w : World) (h : Row encP 2 w v l) (hl : l.length ≤ 100000) : Calls Tryz.prog 53 #[v] w (Gives w (nmL l)) := (norm_any v l w h hl).mono fun _ _ h => gives_of h
set_option maxHeartbeats 1000000 in
theorem union_g (va vb : Value) (a b : List Pr) (w : World) (ha : Row encP 2 w va a) (hb : Row encP 2 w vb b) (hl : a.length + b.length ≤ 100000) :
    Calls Tryz.prog 75 #[va, vb] w (Gives w (unL a b)) := by
  have B0 : Hid (Below w.heap.size w (w.alloc (.cells #[va, vb] 22))) := (Below.refl _ w).alloc (Nat.le_refl _) _
  have hz : (w.alloc (.cells #[va, vb] 22)).heap.size = w.heap.size + 1 := by simp
  have C : Hid (Calls Tryz.prog 102 #[.slice (some ⟨w.heap.size, 0, none⟩) 2 2] (w.alloc (.cells #[va, vb] 22)) fun e w' => ∃ v', e = .returned v' ∧ Own encP 2 (w.heap.size + 1) w' v' (a ++ b) ∧ Below (w.heap.size + 1) (w.alloc (.cells #[va, vb] 22)) w') := by
    have := concat_any w.heap.size va vb a b (w.alloc (.cells #[va, vb] 22)) (Cl.new _ _ _) (ha.below B0.out) (hb.below B0.out) hl
    rw [hz] at this
    exact this
  have hl2 : (a ++ b).length ≤ 100000 := by simp; omega
  obtain ⟨aa, ca, rfl, _⟩ := ha
  obtain ⟨ab, cb, rfl, _⟩ := hb
  go_enter Tryz.func75, Tryz.ntmps75
  go_wp2_with (go_at_call 102; refine Calls.mono C.out ?_; rintro e w1 ⟨v1, rfl, ho1, hb1⟩; have N : Hid (Calls Tryz.prog 53 #[v1] w1 (Gives w1 (nmL (a ++ b)))) := norm_g v1 (a ++ b) w1 ho1.row hl2; clear ho1)
  go_wp2_with (go_at_call 53; refine Calls.mono N.out ?_; rintro e w2 ⟨ao2, n2, c2, rfl, r2, hb2⟩)
  go_ret
  exact ⟨_, _, _, rfl, r2, (B0.out.trans (hb1.mono (by omega))).trans (hb2.mono (by have := hb1.size; omega))⟩

set_option maxHeartbeats 1000000 in
theorem meet_g (va vb : Value) (a b : List Pr) (w : World) (ha : Row encP 2 w va a) (hb : Row encP 2 w vb b) (hl : a.length + b.length ≤ 50000) :
    Calls Tryz.prog 41 #[va, vb] w (Gives w (meL a b)) := by
  have N1 : Hid (Calls Tryz.prog 53 #[va] w (Gives w (nmL a))) := norm_g va a w ha (by omega)
  have RB : Aside (Row encP 2 w vb b) := hb
  have l1 := nmL_length a
  have l2 := nmL_length b
  obtain ⟨aa, ca, rfl, _⟩ := ha
  obtain ⟨ab, cb, rfl, _⟩ := hb
  go_enter Tryz.func41, Tryz.ntmps41
  go_wp2_with fail
  refine Calls.mono N1.out ?_
  rintro e w1 ⟨ao1, n1, c1, rfl, r1, b1⟩
  have N2 : Hid (Calls Tryz.prog 53 #[.slice ab b.length cb] w1 (Gives w1 (nmL b))) := norm_g _ b w1 (RB.out.below b1) (by omega)
  have R1 : Aside (Row encP 2 w1 (.slice ao1 n1 c1) (nmL a)) := r1
  have B1 : Hid (Below w.heap.size w w1) := b1
  clear r1 b1 N1 RB
  go_wp2_with fail
  refine Calls.mono N2.out ?_
  rintro e w2 ⟨ao2, n2, c2, rfl, r2, b2⟩
  have M : Hid (Calls Tryz.prog 61 #[.slice ao1 n1 c1, .slice ao2 n2 c2] w2 (Gives w2 (meL (nmL a) (nmL b)))) := (meet_any _ _ _ _ w2 (R1.out.below b2) r2 (nmL_cn a) (nmL_cn b) (by omega)).mono fun _ _ h => gives_of h
  have B2 : Hid (Below w.heap.size w w2) := B1.out.trans (b2.mono B1.out.size)
  clear r2 b2 N2 R1 B1
  go_wp2_with fail
  refine Calls.mono M.out ?_
  rintro e w3 ⟨ao3, n3, c3, rfl, r3, b3⟩
  rw [meL_nm] at r3
  go_wp2
  go_ret
  exact ⟨_, _, _, rfl, r3, B2.out.trans (b3.mono B2.out.size)⟩

set_option maxHeartbeats 1000000 in
theorem minus_g (va vb : Value) (a b : List Pr) (w : World) (ha : Row encP 2 w va a) (hb : Row encP 2 w vb b) (hl : a.length + b.length ≤ 50000) :
    Calls Tryz.prog 34 #[va, vb] w (Gives w (mnL a b)) := by
  have N1 : Hid (Calls Tryz.prog 53 #[va] w (Gives w (nmL a))) := norm_g va a w ha (by omega)
  have RB : Aside (Row encP 2 w vb b) := hb
  have l1 := nmL_length a
  have l2 := nmL_length b
  obtain ⟨aa, ca, rfl, _⟩ := ha
  obtain ⟨ab, cb, rfl, _⟩ := hb
  go_enter Tryz.func34, Tryz.ntmps34
  go_wp2_with fail
  refine Calls.mono N1.out ?_
  rintro e w1 ⟨ao1, n1, c1, rfl, r1, b1⟩
  have N2 : Hid (Calls Tryz.prog 53 #[.slice ab b.length cb] w1 (Gives w1 (nmL b))) := norm_g _ b w1 (RB.out.below b1) (by omega)
  have R1 : Aside (Row encP 2 w1 (.slice ao1 n1 c1) (nmL a)) := r1
  have B1 : Hid (Below w.heap.size w w1) := b1
  clear r1 b1 N1 RB
  go_wp2_with fail
  refine Calls.mono N2.out ?_
  rintro e w2 ⟨ao2, n2, c2, rfl, r2, b2⟩
  have N3 : Hid (Calls Tryz.prog 62 #[.slice ao2 n2 c2] w2 (Gives w2 (restRL (nmL b)))) := (rest_any _ _ w2 r2 (by omega) (nmL_cn b)).mono fun _ _ h => gives_of h
  have R2 : Aside (Row encP 2 w2 (.slice ao1 n1 c1) (nmL a)) := R1.out.below b2
  have B2 : Hid (Below w.heap.size w w2) := B1.out.trans (b2.mono B1.out.size)
  clear r2 b2 N2 R1 B1
  go_wp2_with fail
  refine Calls.mono N3.out ?_
  rintro e w3 ⟨ao3, n3, c3, rfl, r3, b3⟩
  obtain ⟨q1, _, q3⟩ := restL_ok _ (nmL_cn b)
  have M : Hid (Calls Tryz.prog 61 #[.slice ao1 n1 c1, .slice ao3 n3 c3] w3 (Gives w3 (meL (nmL a) (restRL (nmL b))))) := (meet_any _ _ _ _ w3 (R2.out.below b3) r3 (nmL_cn a) q1 (by omega)).mono fun _ _ h => gives_of h
  have B3 : Hid (Below w.heap.size w w3) := B2.out.trans (b3.mono B2.out.size)
  clear r3 b3 N3 R2 B2 q1 q3
  go_wp2_with fail
  refine Calls.mono M.out ?_
  rintro e w4 ⟨ao4, n4, c4, rfl, r4, b4⟩
  rw [meL_rest] at r4
  go_wp2
  go_ret
  exact ⟨_, _, _, rfl, r4, B3.out.trans (b4.mono B3.out.size)⟩

set_option maxHeartbeats 1000000 in
theorem add_g (va : Value) (a : List Pr) (n : Int) (w : World) (ha : Row encP 2 w va a) (hl : a.length ≤ 50000) :
    Calls Tryz.prog 48 #[va, .int .i64 n] w (Gives w (unL a [(n, n)])) := by
  have RA : Aside (Row encP 2 w va a) := ha
  have C : Hid (Calls Tryz.prog 76 #[.int .i64 n] w fun e w' => ∃ v, e = .returned v ∧ Row encP 2 w' v [(n, n)] ∧ Below w.heap.size w w') := single_any n w
  obtain ⟨aa, ca, rfl, _⟩ := ha
  go_enter Tryz.func48, Tryz.ntmps48
  go_wp2_with fail
  refine Calls.mono C.out ?_
  rintro e w1 ⟨v1, rfl, r1, b1⟩
  have N : Hid (Calls Tryz.prog 75 #[.slice aa a.length ca, v1] w1 (Gives w1 (unL a [(n, n)]))) := union_g _ _ a [(n, n)] w1 (RA.out.below b1) r1 (by simp; omega)
  have B1 : Hid (Below w.heap.size w w1) := b1
  obtain ⟨a1, c1, rfl, _⟩ := id r1
  clear r1 b1 C
  go_wp2_with fail
  refine Calls.mono N.out ?_
  rintro e w2 ⟨ao2, n2, c2, rfl, r2, b2⟩
  go_wp2
  go_ret
  exact ⟨_, _, _, rfl, r2, B1.out.trans (b2.mono B1.out.size)⟩
end

end Go.Proofs.YtnngfkjbbedkpaaGreatDoor

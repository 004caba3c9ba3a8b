/-
  The walks of package chain's parts and Parse.
-/
import Derived.Test.YtnjnggjbeklmpaaGreatDoorChBody
import Derived.Test.YtnjnggjbeklmpaaGreatDoorBCode
namespace Go.Proofs.YtnjnggjbeklmpaaGreatDoor
open Go.RowKit
set_option linter.unusedVariables false

theorem OwnP.only {base b : Nat} {w w' : World} {v : Value} {l : List Pr} (h : OwnP base w v l) (o : Only b w w') (hb : b < base) : OwnP base w' v l := by
  refine ⟨h.1, ?_⟩
  rcases h.2 with h2 | ⟨g, cap, cur, hv, hg, hh, r⟩
  · exact Or.inl h2
  · exact Or.inr ⟨g, cap, cur, hv, hg, (o.block g (by omega)).trans hh, r⟩
theorem OwnP.mono' {base base' : Nat} {W : World} {v : Value} {l : List Pr} (h : OwnP base W v l) (hb : base' ≤ base) : OwnP base' W v l := by
  refine ⟨h.1, ?_⟩
  rcases h.2 with h2 | ⟨g, cap, cur, hv, hg, r⟩
  · exact Or.inl h2
  · exact Or.inr ⟨g, cap, cur, hv, Nat.le_trans hb hg, r⟩
theorem Only.below' {B b : Nat} {u w w' : World} (h : Only b w w') (hu : Below B u w) (hB : B ≤ b) : Below B u w' := hu.trans (h.below hB)

set_option maxHeartbeats 2000000 in
set_option maxRecDepth 100000 in
theorem cparts_any (s : ByteArray) (w : World) (hs : s.size ≤ maxLen) :
    Calls Tryz.prog 42 #[.string s] w fun e w' => ∃ v, e = .returned (.tuple #[.int .i64 (partN s), v]) ∧ OwnP w.heap.size w' v (partL s) ∧ Below w.heap.size w w' := by
  have CR : Hid _ := read_any s w
  have R1 : Hid (Rd w.heap.size s 0 (w.alloc (.cells #[.string s, .int .i64 0] 151))) := Rd.made s hs w
  have B1 : Hid (Below w.heap.size w (w.alloc (.cells #[.string s, .int .i64 0] 151))) := (Below.refl _ _).alloc (Nat.le_refl _) _
  have hz1 : w.heap.size + 1 ≤ (w.alloc (.cells #[.string s, .int .i64 0] 151)).heap.size := by simp
  have EN : Hid (partN s = (rdInt s 0 4).1) := rfl
  have EC : Hid (partC s = rdInt (rdInt s 0 4).2.1 (rdInt s 0 4).2.2 2) := rfl
  have EL : Hid (partL s = (partAt (partC s).2.1 (partC s).2.2 (min (partC s).1 29).toNat).2) := rfl
  have hc0 : 0 ≤ (partC s).1 := by
    rw [EC.out]
    unfold rdInt
    split
    · exact Int.le_refl _
    · exact Int.natCast_nonneg _
  have C1 : Hid _ := int_any w.heap.size s 0 4 (w.alloc (.cells #[.string s, .int .i64 0] 151)) R1.out
  generalize partN s = PN at *
  generalize partL s = PL at *
  generalize partC s = PC at *
  generalize rdInt s 0 4 = q1 at *
  obtain ⟨n1, s1, e1⟩ := q1
  dsimp only at C1 EN EC
  go_enter Tryz.func42, Tryz.ntmps42
  go_wp2_with fail
  refine Calls.mono CR.out ?_
  rintro e w1 ⟨rfl, rfl⟩
  clear CR
  go_wp2_with fail
  generalize w.alloc (.cells #[.string s, .int .i64 0] 151) = w1 at *
  refine Calls.mono C1.out ?_
  rintro e w2 ⟨rfl, r2, o2⟩
  have B2 : Hid (Below w.heap.size w w2) := o2.below' B1.out (Nat.le_refl _)
  have hz2 : w.heap.size + 1 ≤ w2.heap.size := by rw [o2.size]; exact hz1
  have C2 : Hid _ := int_any w.heap.size s1 e1 2 w2 r2
  rw [← EC.out] at C2
  obtain ⟨cn, s2, e2⟩ := PC
  dsimp only at C2 hc0 EL
  clear C1 R1 B1 o2 r2 hz1 EC
  go_wp2_with fail
  refine Calls.mono C2.out ?_
  rintro e w3 ⟨rfl, r3, o3⟩
  have R3 : Hid (Rd w.heap.size s2 e2 w3) := r3
  have B3 : Hid (Below w.heap.size w w3) := o3.below' B2.out (Nat.le_refl _)
  have hz3 : w.heap.size + 1 ≤ w3.heap.size := by rw [o3.size]; exact hz2
  clear C2 r3 o3 B2 hz2
  obtain ⟨m, hm⟩ : ∃ m : Nat, min cn 29 = (m : Int) := ⟨(min cn 29).toNat, by omega⟩
  have hm29 : m ≤ 29 := by omega
  rw [hm, Int.toNat_natCast] at EL
  go_wp2
  clear hm hc0
  go_loopg [6, 15] m (fun kx s6 s15 wr => ∃ (i : Nat) (ao' : Option Addr) (n' c' : Nat) (ls : List Pr) (sx : ByteArray) (ex : Int), s6 = .slice ao' n' c' ∧ s15 = .int .i64 i ∧ i ≤ m ∧ m - i ≤ kx ∧ Aside (OwnP (w.heap.size + 1) wr (.slice ao' n' c') ls) ∧ Hid (partAt s2 e2 i = ((sx, ex), ls)) ∧ Hid (Rd w.heap.size sx ex wr) ∧ Hid (Below w.heap.size w wr) ∧ w.heap.size + 1 ≤ wr.heap.size)
  case atStart => exact ⟨0, none, 0, 0, [], s2, e2, rfl, rfl, Nat.zero_le _, Nat.le_refl _, OwnP.empty _ _, rfl, R3, B3, hz3⟩
  case round =>
    obtain ⟨i, ao', n', c', ls, sx, ex, rfl, rfl, hi, hki, HO, HP, HR, HB, hzr⟩ := hrel
    clear R3 B3 hz3
    by_cases him : i < m
    · have himz : (i : Int) < (m : Int) := by omega
      have hlen : ls.length < 1000000 := by have := partAt_length s2 e2 i; rw [HP.out] at this; simp only at this; omega
      have C3 : Hid _ := int_any w.heap.size sx ex 4 wr HR.out
      have HN : Hid (partAt s2 e2 (i + 1) = (((rdInt (rdInt sx ex 4).2.1 (rdInt sx ex 4).2.2 4).2.1, (rdInt (rdInt sx ex 4).2.1 (rdInt sx ex 4).2.2 4).2.2), ls ++ [((rdInt sx ex 4).1, (rdInt (rdInt sx ex 4).2.1 (rdInt sx ex 4).2.2 4).1)])) := by
        show _ = _
        rw [partAt, HP.out]
      generalize rdInt sx ex 4 = q3 at *
      obtain ⟨n3, s3, e3⟩ := q3
      dsimp only at C3 HN
      go_wp2_with fail
      refine Calls.mono C3.out ?_
      rintro e w5 ⟨rfl, r5, o5⟩
      have B5 : Hid (Below w.heap.size w w5) := o5.below' HB.out (Nat.le_refl _)
      have O5 : Aside (OwnP (w.heap.size + 1) w5 (.slice ao' n' c') ls) := HO.out.only o5 (by omega)
      have hz5 : w.heap.size + 1 ≤ w5.heap.size := by rw [o5.size]; exact hzr
      have C4 : Hid _ := int_any w.heap.size s3 e3 4 w5 r5
      generalize rdInt s3 e3 4 = q4 at *
      obtain ⟨n4, s4, e4⟩ := q4
      dsimp only at C4 HN
      clear C3 r5 o5 HO HP HR HB hzr
      go_wp2_with fail
      refine Calls.mono C4.out ?_
      rintro e w6 ⟨rfl, r6, o6⟩
      have R6 : Hid (Rd w.heap.size s4 e4 w6) := r6
      have B6 : Hid (Below w.heap.size w w6) := o6.below' B5.out (Nat.le_refl _)
      have O6 : Aside (OwnP (w.heap.size + 1) w6 (.slice ao' n' c') ls) := O5.out.only o6 (by omega)
      have hz6 : w.heap.size + 1 ≤ w6.heap.size := by rw [o6.size]; exact hz5
      clear C4 r6 o6 O5 B5 hz5
      go_wp2_with (at_builtin; refine app_run rfl _ _ rfl (w.heap.size + 1) _ ls rfl (O6.out.alloc _) w6.heap.size 0 1 rfl (n3, n4) (by simp) (by simp) hlen (by simp; omega) ?_)
      intro ao7 n7 c7 w7 HO7 HB7 _
      have O7 : Aside (OwnP (w.heap.size + 1) w7 (.slice ao7 n7 c7) (ls ++ [(n3, n4)])) := HO7
      have BB : Below (w.heap.size + 1) w6 w7 := HB7 w6 ((Below.refl _ _).alloc (by omega) _)
      have R7 : Hid (Rd w.heap.size s4 e4 w7) := R6.out.below BB (by omega)
      have B7 : Hid (Below w.heap.size w w7) := B6.out.trans (BB.mono (by omega))
      have hz7 : w.heap.size + 1 ≤ w7.heap.size := Nat.le_trans hz6 BB.size
      clear HO7 HB7 BB O6 B6 R6 hz6
      go_wp2
      go_roundg (m - (i + 1))
      case measure => omega
      case rel => exact ⟨i + 1, ao7, n7, c7, _, s4, e4, rfl, by go_num, by omega, Nat.le_refl _, O7, HN, R7, B7, hz7⟩
    · have himz : ¬ (i : Int) < (m : Int) := by omega
      obtain rfl : i = m := by omega
      have EL2 : Hid (PL = ls) := by show _ = _; rw [EL.out, HP.out]
      go_wp2
      go_ret2
      refine ⟨.slice ao' n' c', (by rw [EN.out]; rfl), ?_, HB.out⟩
      rw [EL2.out]
      exact HO.out.mono' (by omega)

set_option maxHeartbeats 1000000 in
set_option maxRecDepth 100000 in
theorem parse_any (s : ByteArray) (w : World) (hs : s.size ≤ maxLen) :
    Calls Tryz.prog 19 #[.string s] w fun e w' => ∃ ao n c, e = .returned (.tuple #[.int .i64 (prs s.data.toList).1, .slice ao n c, .int .i64 (prs s.data.toList).2.2]) ∧ OwnP w.heap.size w' (.slice ao n c) (prs s.data.toList).2.1 ∧ Below w.heap.size w w' := by
  have CP : Hid _ := cparts_any s w hs
  have EP : Hid _ := part_prs s
  have CB : Hid (∀ u v, Row encP 2 u v (partL s) → _) := fun u v hr => body_any (partN s) v (partL s) u hr (by
    have := partAt_length (partC s).2.1 (partC s).2.2 (min (partC s).1 29).toNat
    unfold partL
    rw [this]
    omega)
  generalize partN s = pn at *
  generalize partL s = pl at *
  by_cases hb : bodyB pn pl = true
  · rw [show bodyT pn pl = bodyL pn pl from if_pos hb, show bodyE pn pl = 0 from if_pos hb] at CB
    by_cases he : bodyL pn pl = s.data.toList
    · have E2 : Hid (prs s.data.toList = (pn, pl, 0)) := by show _ = _; rw [EP.out, if_pos ⟨hb, he⟩]
      rw [E2.out]
      rw [he, show (⟨s.data.toList.toArray⟩ : ByteArray) = s from rfl] at CB
      clear EP he hb hs E2
      have hbq : (s.toList == s.toList) = true := by simp
      go_enter Tryz.func19, Tryz.ntmps19
      go_wp2_with fail
      refine Calls.mono CP.out ?_
      rintro e w2 ⟨v, rfl, o2, b2⟩
      obtain ⟨ao, c, rfl, _⟩ := o2.own
      have O2 : Aside (OwnP w.heap.size w2 (.slice ao pl.length c) pl) := o2
      have B2 : Hid (Below w.heap.size w w2) := b2
      have C2 : Hid _ := CB.out w2 _ o2.own.row
      clear o2 b2 CP CB
      generalize pl.length = n at *
      go_wp2_with fail
      refine Calls.mono C2.out ?_
      rintro e w3 ⟨rfl, b3⟩
      have O3 : Aside (OwnP w.heap.size w3 (.slice ao n c) pl) := ownsRow_below O2.out b3
      have B3 : Hid (Below w.heap.size w w3) := B2.out.trans (b3.mono B2.out.size)
      clear b3 C2 O2 B2
      go_wp2
      go_ret3
      exact ⟨_, _, _, rfl, O3.out, B3.out⟩
    · have E2 : Hid (prs s.data.toList = (0, [], 3)) := by show _ = _; rw [EP.out, if_neg (fun c => he c.2)]
      rw [E2.out]
      have hne := str_ne (a := ⟨(bodyL pn pl).toArray⟩) (b := s) (fun e => he (by rw [← e]))
      clear EP he hb hs E2
      generalize (⟨(bodyL pn pl).toArray⟩ : ByteArray) = X at *
      go_enter Tryz.func19, Tryz.ntmps19
      go_wp2_with fail
      refine Calls.mono CP.out ?_
      rintro e w2 ⟨v, rfl, o2, b2⟩
      obtain ⟨ao, c, rfl, _⟩ := o2.own
      have B2 : Hid (Below w.heap.size w w2) := b2
      have C2 : Hid _ := CB.out w2 _ o2.own.row
      clear o2 b2 CP CB
      go_wp2_with fail
      refine Calls.mono C2.out ?_
      rintro e w3 ⟨rfl, b3⟩
      have B3 : Hid (Below w.heap.size w w3) := B2.out.trans (b3.mono B2.out.size)
      clear b3 C2 B2
      go_wp2
      go_ret3
      exact ⟨_, _, _, rfl, OwnP.empty _ _, B3.out⟩
  · rw [show bodyT pn pl = [] from if_neg hb, show bodyE pn pl = 1 from if_neg hb] at CB
    have E2 : Hid (prs s.data.toList = (0, [], 3)) := by show _ = _; rw [EP.out, if_neg (fun c => hb c.1)]
    rw [E2.out]
    clear EP hb hs E2
    go_enter Tryz.func19, Tryz.ntmps19
    go_wp2_with fail
    refine Calls.mono CP.out ?_
    rintro e w2 ⟨v, rfl, o2, b2⟩
    obtain ⟨ao, c, rfl, _⟩ := o2.own
    have B2 : Hid (Below w.heap.size w w2) := b2
    have C2 : Hid _ := CB.out w2 _ o2.own.row
    clear o2 b2 CP CB
    go_wp2_with fail
    refine Calls.mono C2.out ?_
    rintro e w3 ⟨rfl, b3⟩
    have B3 : Hid (Below w.heap.size w w3) := B2.out.trans (b3.mono B2.out.size)
    clear b3 C2 B2
    go_wp2
    go_ret3
    exact ⟨_, _, _, rfl, OwnP.empty _ _, B3.out⟩

end Go.Proofs.YtnjnggjbeklmpaaGreatDoor

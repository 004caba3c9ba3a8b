/-
  The walk of package entry's Decode.
-/
import Derived.Test.YtmamnlphhiaeoaaEnCode
namespace Go.Proofs.Ytmamnlphhiaeoaa
open Go.Shelf Go.RowKit Go.Lib Go.Sort

theorem rdBytes_size (s : ByteArray) (e n : Int) : (rdBytes s e n).2.1.size ≤ s.size := by
  unfold rdBytes
  split
  · simp
  · split
    · simp
    · split
      · simp
      · simp
theorem rdInt_size (s : ByteArray) (e n : Int) : (rdInt s e n).2.1.size ≤ s.size := by
  unfold rdInt
  split
  · simp
  · exact rdBytes_size s e n
theorem rdText_size (s : ByteArray) (e : Int) : (rdText s e).2.1.size ≤ s.size := Nat.le_trans (rdBytes_size _ _ _) (rdInt_size _ _ _)
theorem rdText_less (s : ByteArray) (h : s.size ≠ 0) : (rdText s 0).2.1.size < s.size := by
  refine Nat.lt_of_le_of_lt (rdBytes_size _ _ _) ?_
  have : rdInt s 0 1 = ((beNat (rdBytes s 0 1).1.data.toList : Int), (rdBytes s 0 1).2.1, (rdBytes s 0 1).2.2) := by simp [rdInt, szB]
  rw [this]
  have h2 : rdBytes s 0 1 = (s.extract 0 1, s.extract 1 s.size, 0) := by
    unfold rdBytes
    rw [if_neg (by simp), if_neg (by omega), if_neg (by omega)]
    rfl
  rw [h2]
  simp
  omega

/-- Two texts that are read: an entry, or an error. -/
theorem rd_two (s : ByteArray) (h : s.size ≠ 0) : (rdText (rdText s 0).2.1 (rdText s 0).2.2).2.1.size < s.size ∧
    (((rdText (rdText s 0).2.1 (rdText s 0).2.2).2.2 = 0 ∧ stp s.data.toList = some (((rdText s 0).1, (rdText (rdText s 0).2.1 (rdText s 0).2.2).1), (rdText (rdText s 0).2.1 (rdText s 0).2.2).2.1.data.toList)) ∨
     ((rdText (rdText s 0).2.1 (rdText s 0).2.2).2.2 ≠ 0 ∧ stp s.data.toList = none)) := by
  refine ⟨Nat.lt_of_le_of_lt (rdText_size _ _) (rdText_less s h), ?_⟩
  by_cases c : (rdText (rdText s 0).2.1 (rdText s 0).2.2).2.2 = 0
  · left
    refine ⟨c, ?_⟩
    obtain ⟨e1, d, b, r, hs2, hd, hr2⟩ := rdText_inv _ _ c
    obtain ⟨_, c1, a, q, hs1, hc, hr1⟩ := rdText_inv s 0 e1
    rw [hr2, hr1]
    rw [hr1] at hs2
    have hq : q = d :: (b ++ r) := by
      have := congrArg (fun x : ByteArray => x.data.toList) hs2
      simpa using this
    rw [hs1, hq]
    simp only
    exact stp_tx c1 d a b r hc hd
  · right
    refine ⟨c, ?_⟩
    cases ht : stp s.data.toList with
    | none => rfl
    | some p =>
      exfalso
      apply c
      obtain ⟨x, r⟩ := p
      obtain ⟨he, h1, h2⟩ := stp_inv ht
      have s1 := Lib.size_eq x.1
      have s2 := Lib.size_eq x.2
      have e1 : s = ⟨(UInt8.ofNat x.1.size :: (x.1.data.toList ++ (txL x.2 ++ r))).toArray⟩ := by
        apply ba_ext
        rw [he]
        simp [enE, txL]
      have r1 := rdText_app (UInt8.ofNat x.1.size) x.1.data.toList (txL x.2 ++ r) (by rw [ofNat_size h1]; exact s1)
      rw [← e1] at r1
      rw [r1]
      have r2 := rdText_app (UInt8.ofNat x.2.size) x.2.data.toList r (by rw [ofNat_size h2]; exact s2)
      have e2 : txL x.2 ++ r = UInt8.ofNat x.2.size :: (x.2.data.toList ++ r) := rfl
      rw [e2, r2]

theorem OwnZ.only {base b : Nat} {w w' : World} {v : Value} {l : List En} (h : OwnZ base w v l) (ho : Only b w w') (hb : b < base) : OwnZ base w' v l := by
  rcases h with h | h
  · left
    refine ⟨h.1, ?_⟩
    rcases h.2 with h2 | ⟨g, cap, cur, hv, hg, hh, r⟩
    · exact Or.inl h2
    · exact Or.inr ⟨g, cap, cur, hv, hg, by rw [ho.block g (by omega)]; exact hh, r⟩
  · exact Or.inr h

/-- What is told so far of all bytes. -/
def DcI (S s : ByteArray) (e : Int) (out : List En) : Prop := (e = 0 ∧ dcL S.data.toList = (dcL s.data.toList).map (out ++ ·)) ∨ (e ≠ 0 ∧ dcL S.data.toList = none)

theorem map_cons_app (out : List En) (x : En) (o : Option (List En)) : (o.map (x :: ·)).map (out ++ ·) = o.map ((out ++ [x]) ++ ·) := by
  cases o <;> simp

theorem DcI.next {S s s2 : ByteArray} {out : List En} {x : En} {e2 : Int} (h : DcI S s 0 out) (hs : s.size ≠ 0) (h2 : (e2 = 0 ∧ stp s.data.toList = some (x, s2.data.toList)) ∨ (e2 ≠ 0 ∧ stp s.data.toList = none)) : DcI S s2 e2 (out ++ [x]) := by
  rcases h with ⟨_, h⟩ | ⟨h, _⟩
  · rcases h2 with ⟨e, h2⟩ | ⟨e, h2⟩
    · left
      refine ⟨e, ?_⟩
      rw [h, dcL_some h2, map_cons_app]
    · right
      refine ⟨e, ?_⟩
      rw [h, dcL_none (by
        intro e
        have := Lib.size_eq s
        rw [e] at this
        exact hs this) h2]
      rfl
  · exact absurd rfl h

theorem DcI.bad {S s : ByteArray} {e : Int} {out : List En} (h : DcI S s e out) (he : e ≠ 0) : deL S.data.toList = [] ∧ deB S.data.toList = false := by
  rcases h with ⟨h, _⟩ | ⟨_, h⟩
  · exact absurd h he
  · unfold deL deB; rw [h]; exact ⟨rfl, rfl⟩
theorem DcI.good {S s : ByteArray} {out : List En} (h : DcI S s 0 out) (hs : s.size = 0) : deL S.data.toList = (if rgB out = true then out else []) ∧ deB S.data.toList = rgB out := by
  rcases h with ⟨_, h⟩ | ⟨h, _⟩
  · have e : s.data.toList = [] := List.eq_nil_of_length_eq_zero (by rw [← Lib.size_eq]; exact hs)
    rw [e, dcL_nil] at h
    simp only [Option.map_some, List.append_nil] at h
    unfold deL deB
    rw [h]
    exact ⟨rfl, rfl⟩
  · exact absurd rfl h

/-- The error that Decode answers. -/
def deE2 (b : Bool) : Int := if b = true then 0 else 3

set_option maxHeartbeats 4000000 in
set_option maxRecDepth 100000 in
theorem decode_any (S : ByteArray) (w : World) (hS : S.size ≤ 100000) :
    Calls Try.prog 58 #[.string S] w fun e w' => ∃ v', e = .returned (.tuple #[v', .int .i64 (deE2 (deB S.data.toList))]) ∧ Own encP 2 w.heap.size w' v' (deL S.data.toList) ∧ Below w.heap.size w w' := by
  have C0 : Hid _ := read_any S w
  have R0 : Hid (Rd w.heap.size S 0 (w.alloc (.cells #[.string S, .int .i64 0] 102))) := Rd.made S (by unfold maxLen; omega) w
  have B0 : Hid (Below w.heap.size w (w.alloc (.cells #[.string S, .int .i64 0] 102))) := (Below.refl _ w).alloc (Nat.le_refl _) _
  obtain ⟨rb, hrb⟩ : ∃ rb, w.heap.size = rb := ⟨_, rfl⟩
  rw [hrb] at C0 R0 B0 ⊢
  have HRB : Hid (w.heap.size = rb) := hrb
  clear hrb
  generalize w.alloc (.cells #[.string S, .int .i64 0] 102) = W0 at *
  go_enter Try.func58, Try.ntmps58
  go_wp2_with (go_at_call 59; refine Calls.mono C0.out ?_; rintro e w1 ⟨rfl, rfl⟩)
  go_loopg [4] (S.size + 1) (fun kx s4 wr => ∃ (ao' : Option Addr) (n' c' : Nat) (out : List En) (s : ByteArray) (e : Int), s4 = .slice ao' n' c' ∧ s.size < kx + 1 ∧ out.length + s.size ≤ S.size ∧ Hid (Rd rb s e wr) ∧ Hid (DcI S s e out) ∧ Aside (OwnZ (rb + 1) wr (.slice ao' n' c') out) ∧ Hid (Below rb w wr))
  case atStart => exact ⟨none, 0, 0, [], S, 0, rfl, by omega, by simp, R0, Or.inl ⟨rfl, by cases dcL S.data.toList <;> simp⟩, OwnZ.empty _ _ _, B0⟩
  case round =>
    clear C0 R0 B0
    obtain ⟨ao', n', c', out, s, e, rfl, hk, hsz, HR, HD, HO, HB⟩ := hrel
    have CE : Hid _ := err_any rb s e wr HR.out
    have CL : Hid _ := left_any rb s e wr HR.out
    by_cases he : e = 0
    · subst he
      by_cases hs0 : s.size = 0
      · have hs1 : ¬ (0 : Int) < (s.size : Int) := by omega
        have CN : Hid _ := end_any rb s 0 wr HR.out
        have en : rdEnd s 0 = 0 := by simp [rdEnd, hs0]
        rw [en] at CN
        obtain ⟨g1, g2⟩ := HD.out.good hs0
        have CR : Hid _ := right_any _ out wr HO.out.own.row (by omega)
        have G1 : Hid _ := g1
        have G2 : Hid _ := g2
        clear g1 g2 en HD hs0
        cases hr : rgB out with
        | true =>
          have G3 : Hid (deL S.data.toList = out) := by have := G1.out; rw [hr, if_pos rfl] at this; exact this
          rw [hr] at CR G2
          clear hr G1
          go_wp2_with (first | (go_at_call 61; refine Calls.mono CE.out ?_; rintro e w' ⟨rfl, rfl⟩) | (go_at_call 62; refine Calls.mono CL.out ?_; rintro e w' ⟨rfl, rfl⟩) | (go_at_call 64; refine Calls.mono CN.out ?_; rintro e w' ⟨rfl, rfl⟩) | (go_at_call 54; refine Calls.mono CR.out ?_; rintro e w2 ⟨rfl, hb2⟩))
          go_ret2
          refine ⟨_, by rw [G2.out]; rfl, ?_, HB.out.trans (hb2.mono (by have := HB.out.size; have := HRB.out; omega))⟩
          rw [G3.out]
          exact (HO.out.own.below hb2).mono (Nat.le_succ _)
        | false =>
          have G3 : Hid (deL S.data.toList = []) := by have := G1.out; rw [hr, if_neg (by simp)] at this; exact this
          rw [hr] at CR G2
          clear hr G1
          go_wp2_with (first | (go_at_call 61; refine Calls.mono CE.out ?_; rintro e w' ⟨rfl, rfl⟩) | (go_at_call 62; refine Calls.mono CL.out ?_; rintro e w' ⟨rfl, rfl⟩) | (go_at_call 64; refine Calls.mono CN.out ?_; rintro e w' ⟨rfl, rfl⟩) | (go_at_call 54; refine Calls.mono CR.out ?_; rintro e w2 ⟨rfl, hb2⟩))
          go_ret2
          refine ⟨_, by rw [G2.out]; rfl, ?_, HB.out.trans (hb2.mono (by have := HB.out.size; have := HRB.out; omega))⟩
          rw [G3.out]
          exact Own.nil
      · have hs1 : (0 : Int) < (s.size : Int) := by omega
        have C1 : Hid _ := rtext_any rb s 0 wr HR.out
        obtain ⟨k1, k2⟩ := rd_two s hs0
        obtain ⟨T1, hT1⟩ : ∃ T1, rdText s 0 = T1 := ⟨_, rfl⟩
        rw [hT1] at C1 k1 k2
        obtain ⟨kk, s1, e1⟩ := T1
        (try dsimp only at k1 k2)
        obtain ⟨T2, hT2⟩ : ∃ T2, rdText s1 e1 = T2 := ⟨_, rfl⟩
        rw [hT2] at k1 k2
        obtain ⟨vv, s2, e2⟩ := T2
        (try dsimp only at k1 k2)
        have HD2 : Hid (DcI S s2 e2 (out ++ [(kk, vv)])) := HD.out.next hs0 k2
        have TT : Hid (rdText s1 e1 = (vv, s2, e2)) := hT2
        clear hT1 hT2 k2 HD
        go_upto_region 5 with (first | (go_at_call 61; refine Calls.mono CE.out ?_; rintro e w' ⟨rfl, rfl⟩) | (go_at_call 62; refine Calls.mono CL.out ?_; rintro e w' ⟨rfl, rfl⟩) | (go_at_call 63; refine Calls.mono C1.out ?_; rintro e w2 ⟨rfl, hr2, ho2⟩))
        (try dsimp only at hr2)
        have C2 : Hid _ := rtext_any rb s1 e1 w2 hr2
        rw [TT.out] at C2
        have O2 : Hid (Only rb wr w2) := ho2
        clear hr2 ho2 C1 CE CL
        go_upto_region 6 with (go_at_call 63; refine Calls.mono C2.out ?_; rintro e w3 ⟨rfl, hr3, ho3⟩)
        (try dsimp only at hr3)
        have O3 : Only rb wr w3 := O2.out.trans ho3
        have Z3 : Aside (OwnZ (rb + 1) w3 (.slice ao' n' c') out) := HO.out.only O3 (Nat.lt_succ_self _)
        have B3 : Hid (Below rb w w3) := HB.out.trans (O3.below (Nat.le_refl _))
        have R3 : Hid (Rd rb s2 e2 w3) := hr3
        clear hr3 ho3 O3 C2 O2 HO HB HR TT
        have hlt := R3.out.lt
        obtain ⟨o2, ho2⟩ : ∃ o2, out ++ [(kk, vv)] = o2 := ⟨_, rfl⟩
        have l2 : o2.length = out.length + 1 := by rw [← ho2]; simp
        have E2 : Hid (out ++ [(kk, vv)] = o2) := ho2
        rw [ho2] at HD2
        clear ho2
        have B4 : Hid (Below (rb + 1) w3 (w3.alloc (.cells #[.string kk, .string vv] 56))) := (Below.refl _ w3).alloc (by omega) _
        have O4 : Aside (OwnZ (rb + 1) (w3.alloc (.cells #[.string kk, .string vv] 56)) (.slice ao' n' c') out) := Z3.out.below ((Below.refl _ w3).alloc (Nat.le_refl _) _)
        have K4 : Hid (Row encP 2 (w3.alloc (.cells #[.string kk, .string vv] 56)) (.slice (some ⟨w3.heap.size, 0, none⟩) 1 1) [(kk, vv)]) := (Cl.new w3 #[.string kk, .string vv] 56).row
        have hs4 : rb + 1 ≤ (w3.alloc (.cells #[.string kk, .string vv] 56)).heap.size := by simp; omega
        clear Z3
        go_wp2_with (at_builtin; refine app_z rfl _ _ rfl (rb + 1) _ out rfl O4.out _ [(kk, vv)] rfl K4.out (by simp; omega) hs4 o2 E2.out ?_)
        intro a5 n5 c5 w5 P5 Q5
        have O6 : Aside (OwnZ (rb + 1) w5 (.slice a5 n5 c5) o2) := P5
        have B6 : Below (rb + 1) w3 w5 := Q5 _ B4.out
        have R6 : Hid (Rd rb s2 e2 w5) := R3.out.below B6 (Nat.lt_succ_self _)
        have B7 : Hid (Below rb w w5) := B3.out.trans (B6.mono (Nat.le_succ _))
        clear P5 Q5 B6 O4 K4 B4 hs4 E2 R3 B3
        go_wp2
        go_roundg s2.size
        case measure => omega
        case rel => exact ⟨a5, n5, c5, o2, s2, e2, rfl, by omega, by omega, R6, HD2, O6, B7⟩
    · have CN : Hid _ := end_any rb s e wr HR.out
      have en : rdEnd s e = e := by simp [rdEnd, he]
      rw [en] at CN
      obtain ⟨g1, g2⟩ := HD.out.bad he
      have G1 : Hid _ := g1
      have G2 : Hid _ := g2
      have e1 : (e == 0) = false := beq_eq_false_iff_ne.2 he
      have e2 : (e != 0) = true := by rw [bne_iff_ne]; exact he
      clear g1 g2 en HD he
      go_wp2_with (first | (go_at_call 61; refine Calls.mono CE.out ?_; rintro e w' ⟨rfl, rfl⟩) | (go_at_call 64; refine Calls.mono CN.out ?_; rintro e w' ⟨rfl, rfl⟩))
      go_ret2
      refine ⟨_, by rw [G2.out]; rfl, ?_, HB.out⟩
      rw [G1.out]
      exact Own.nil

end Go.Proofs.Ytmamnlphhiaeoaa

/-
  The walk of the document's Decode.
-/
import Derived.Test.YtmamnlphhiaeoaaEnDec
import Derived.Deep.RegionHeld3
namespace Go.Proofs.Ytmamnlphhiaeoaa
open Go.Shelf Go.RowKit Go.Lib Go.Sort

theorem stp_short {L : List UInt8} (h : 0 < L.length) (h2 : L.length < L[0].toNat + 2) : stp L = none := by
  cases L with
  | nil => simp at h
  | cons c t =>
    simp only [List.getElem_cons_zero, List.length_cons] at h2
    simp only [stp]
    rw [if_pos (by omega)]
theorem stp_mid {L : List UInt8} {n : Nat} (h : 0 < L.length) (hn : L[0].toNat = n) (h1 : n + 1 < L.length) (h2 : L.length < n + L[n + 1].toNat + 2) : stp L = none := by
  cases L with
  | nil => simp at h
  | cons c t =>
    simp only [List.getElem_cons_zero] at hn
    simp only [List.getElem_cons_succ, List.length_cons] at h1 h2
    simp only [stp]
    have e : t.drop c.toNat = t[n]'(by omega) :: t.drop (n + 1) := by rw [hn]; exact List.drop_eq_getElem_cons (by omega)
    rw [if_neg (by omega), e]
    simp only
    rw [if_pos (by simp; omega)]
theorem stp_long {L : List UInt8} {n m : Nat} (h : 0 < L.length) (hn : L[0].toNat = n) (h1 : n + 1 < L.length) (hm : L[n + 1].toNat = m) (h2 : n + m + 2 ≤ L.length) : stp L = some ((⟨((L.drop 1).take n).toArray⟩, ⟨((L.drop (n + 2)).take m).toArray⟩), L.drop (n + m + 2)) := by
  have d3 : L.drop (n + m + 2) = (L.drop (n + 2)).drop m := by rw [List.drop_drop]; congr 1; omega
  have e3 : L.drop (n + 2) = (L.drop (n + 2)).take m ++ L.drop (n + m + 2) := by
    rw [d3, List.take_append_drop]
  have e2 : L.drop (n + 1) = L[n + 1] :: L.drop (n + 2) := List.drop_eq_getElem_cons h1
  have d1 : L.drop (n + 1) = (L.drop 1).drop n := by rw [List.drop_drop]; congr 1; omega
  have e1 : L.drop 1 = (L.drop 1).take n ++ L.drop (n + 1) := by
    rw [d1, List.take_append_drop]
  have e0 : L = L[0] :: L.drop 1 := by
    have := List.drop_eq_getElem_cons h
    rwa [List.drop_zero] at this
  have key := stp_tx L[0] L[n + 1] ((L.drop 1).take n) ((L.drop (n + 2)).take m) (L.drop (n + m + 2)) (by rw [hn]; simp; omega) (by rw [hm]; simp; omega)
  rw [← e3, ← e2, ← e1, ← e0] at key
  exact key

theorem ba_get (s : ByteArray) (i : Nat) (h : i < s.size) : s.data.toList[i]'(by rw [← Lib.size_eq]; exact h) = s[i] := rfl

/-- One step of reading, in the bytes' own words. -/
theorem stp_ba0 (s : ByteArray) (h : 0 < s.size) (n : Nat) (hn : (s[0]'h).toNat = n) (h2 : s.size < n + 2) : stp s.data.toList = none := by
  have e := Lib.size_eq s
  refine stp_short (by omega) ?_
  rw [ba_get s 0 h, hn]
  omega
theorem stp_ba1 (s : ByteArray) (h : 0 < s.size) (n m : Nat) (hn : (s[0]'h).toNat = n) (h1 : n + 1 < s.size) (hm : (s[n + 1]'h1).toNat = m) (h2 : s.size < n + m + 2) : stp s.data.toList = none := by
  have e := Lib.size_eq s
  refine stp_mid (n := n) (by omega) (by rw [ba_get s 0 h]; exact hn) (by omega) ?_
  rw [ba_get s (n + 1) h1, hm]
  omega
theorem stp_ba2 (s : ByteArray) (h : 0 < s.size) (n m : Nat) (hn : (s[0]'h).toNat = n) (h1 : n + 1 < s.size) (hm : (s[n + 1]'h1).toNat = m) (h2 : n + m + 2 ≤ s.size) : stp s.data.toList = some ((s.extract 1 (n + 1), s.extract (n + 2) (n + m + 2)), (s.extract (n + m + 2) s.size).data.toList) := by
  have e := Lib.size_eq s
  rw [stp_long (n := n) (m := m) (by omega) (by rw [ba_get s 0 h]; exact hn) (by omega) (by rw [ba_get s (n + 1) h1]; exact hm) (by omega)]
  have e1 : (⟨((s.data.toList.drop 1).take n).toArray⟩ : ByteArray) = s.extract 1 (n + 1) := by
    apply ba_ext; rw [Lib.extract_data]; simp
  have e2 : (⟨((s.data.toList.drop (n + 2)).take m).toArray⟩ : ByteArray) = s.extract (n + 2) (n + m + 2) := by
    apply ba_ext; rw [Lib.extract_data, show n + m + 2 - (n + 2) = m by omega]
  have e3 : (s.extract (n + m + 2) s.size).data.toList = s.data.toList.drop (n + m + 2) := by
    rw [Lib.extract_data, e, List.take_of_length_le (by simp)]
  rw [e1, e2, e3]

set_option maxHeartbeats 4000000 in
set_option maxRecDepth 100000 in
theorem rdecode_any (S : ByteArray) (w : World) (hS : S.size ≤ 100000) :
    Calls Try.prog 42 #[.string S] w fun e w' => ∃ v', e = .returned (.tuple #[v', .bool (deB S.data.toList)]) ∧ Own encP 2 w.heap.size w' v' (deL S.data.toList) ∧ Below w.heap.size w w' := by
  go_enter Try.func42, Try.ntmps42
  go_wp2
  go_loopg [0, 4] S.size (fun kx s0 s4 wr => ∃ (ao' : Option Addr) (n' c' : Nat) (out : List En) (s : ByteArray), s0 = .string s ∧ s4 = .slice ao' n' c' ∧ s.size ≤ kx ∧ out.length + s.size ≤ S.size ∧ Hid (DcI S s 0 out) ∧ Aside (OwnZ w.heap.size wr (.slice ao' n' c') out) ∧ Hid (Below w.heap.size w wr))
  case atStart => exact ⟨none, 0, 0, [], S, rfl, rfl, by omega, by simp, Or.inl ⟨rfl, by cases dcL S.data.toList <;> simp⟩, OwnZ.empty _ _ _, Below.refl _ _⟩
  case round =>
    obtain ⟨ao', n', c', out, s, rfl, rfl, hk, hsz, HD, HO, HB⟩ := hrel
    by_cases hs0 : s.size = 0
    · have hs1 : ¬ (0 : Int) < (s.size : Int) := by omega
      obtain ⟨g1, g2⟩ := HD.out.good hs0
      have CR : Hid _ := rright_any _ out wr HO.out.own.row (by omega)
      have G1 : Hid _ := g1
      have G2 : Hid _ := g2
      clear g1 g2 HD hs0
      cases hr : rgB out with
      | true =>
        have G3 : Hid (deL S.data.toList = out) := by have := G1.out; rw [hr, if_pos rfl] at this; exact this
        rw [hr] at CR G2
        clear hr G1
        go_wp2_with (go_at_call 29; refine Calls.mono CR.out ?_; rintro e w2 ⟨rfl, hb2⟩)
        go_ret2
        refine ⟨_, by rw [G2.out]; rfl, ?_, HB.out.trans (hb2.mono HB.out.size)⟩
        rw [G3.out]
        exact HO.out.own.below hb2
      | false =>
        have G3 : Hid (deL S.data.toList = []) := by have := G1.out; rw [hr, if_neg (by simp)] at this; exact this
        rw [hr] at CR G2
        clear hr G1
        go_wp2_with (go_at_call 29; refine Calls.mono CR.out ?_; rintro e w2 ⟨rfl, hb2⟩)
        go_ret2
        refine ⟨_, by rw [G2.out]; rfl, ?_, HB.out.trans (hb2.mono HB.out.size)⟩
        rw [G3.out]
        exact Own.nil
    · have hs1 : (0 : Int) < (s.size : Int) := by omega
      have hs2 : 0 < s.size := by omega
      go_upto_region 4 with fail
      obtain ⟨n, hn⟩ : ∃ n : Nat, (s[0]'hs2).toNat = n := ⟨_, rfl⟩
      have hn8 : n < 256 := by rw [← hn]; exact UInt8.toNat_lt _
      have en : wrap64 ((s[0]'hs2).toNat : Int) = (n : Int) := by rw [hn]; unfold wrap64; omega
      have HN : Hid ((s[0]'hs2).toNat = n) := hn
      simp only [en]
      clear en hn
      by_cases h2 : s.size < n + 2
      · have h2z : (s.size : Int) < (n : Int) + 2 := by omega
        have D2 : DcI S s 1 (out ++ [default]) := HD.out.next hs0 (Or.inr ⟨by decide, stp_ba0 s hs2 n HN.out h2⟩)
        obtain ⟨g1, g2⟩ := D2.bad (by decide)
        have G1 : Hid _ := g1
        have G2 : Hid _ := g2
        clear g1 g2 D2 HD
        go_wp2
        go_ret2
        refine ⟨_, by rw [G2.out]; rfl, ?_, HB.out⟩
        rw [G1.out]
        exact Own.nil
      · have h2z : ¬ (s.size : Int) < (n : Int) + 2 := by omega
        have h1 : n + 1 < s.size := by omega
        have h1z : (n : Int) + 1 < (s.size : Int) := by omega
        go_upto_region 7 with fail
        obtain ⟨m, hm⟩ : ∃ m : Nat, (s[n + 1]'h1).toNat = m := ⟨_, rfl⟩
        have hm8 : m < 256 := by rw [← hm]; exact UInt8.toNat_lt _
        have em : wrap64 ((s[n + 1]'h1).toNat : Int) = (m : Int) := by rw [hm]; unfold wrap64; omega
        have HM : Hid ((s[n + 1]'h1).toNat = m) := hm
        simp only [em]
        clear em hm
        by_cases h3 : s.size < n + m + 2
        · have h3z : (s.size : Int) < (n : Int) + (m : Int) + 2 := by omega
          have D2 : DcI S s 1 (out ++ [default]) := HD.out.next hs0 (Or.inr ⟨by decide, stp_ba1 s hs2 n m HN.out h1 HM.out h3⟩)
          obtain ⟨g1, g2⟩ := D2.bad (by decide)
          have G1 : Hid _ := g1
          have G2 : Hid _ := g2
          clear g1 g2 D2 HD
          go_wp2
          go_ret2
          refine ⟨_, by rw [G2.out]; rfl, ?_, HB.out⟩
          rw [G1.out]
          exact Own.nil
        · have h3z : ¬ (s.size : Int) < (n : Int) + (m : Int) + 2 := by omega
          have D2 : Hid (DcI S (s.extract (n + m + 2) s.size) 0 (out ++ [(s.extract 1 (n + 1), s.extract (n + 2) (n + m + 2))])) := HD.out.next hs0 (Or.inl ⟨rfl, stp_ba2 s hs2 n m HN.out h1 HM.out (by omega)⟩)
          clear HD HN HM
          have r1 : ∀ u, (Instr.slice 9 (.string s) (some (.int .i64 1)) (some (.int .i64 ((n : Int) + 1))) none).run Try.prog u = .ok (.string (s.extract 1 (n + 1))) u := fun u => by
            have := run_slice_string (P := Try.prog) u 9 s .i64 .i64 1 ((n : Int) + 1) Try.underlying9 (by omega) (by omega) (by omega)
            rw [this]; rfl
          have r2 : ∀ u, (Instr.slice 9 (.string s) (some (.int .i64 ((n : Int) + 2))) (some (.int .i64 ((n : Int) + (m : Int) + 2))) none).run Try.prog u = .ok (.string (s.extract (n + 2) (n + m + 2))) u := fun u => by
            have := run_slice_string (P := Try.prog) u 9 s .i64 .i64 ((n : Int) + 2) ((n : Int) + (m : Int) + 2) Try.underlying9 (by omega) (by omega) (by omega)
            rw [this]; rfl
          have v1 : IntKind.i64.wrap ((n : Int) + 1) = (n : Int) + 1 := by rw [IntKind.wrap_i64]; omega
          have v2 : IntKind.i64.wrap ((n : Int) + 2) = (n : Int) + 2 := by rw [IntKind.wrap_i64]; omega
          have v3 : IntKind.i64.wrap ((n : Int) + (m : Int)) = (n : Int) + (m : Int) := by rw [IntKind.wrap_i64]; omega
          have v4 : IntKind.i64.wrap ((n : Int) + (m : Int) + 2) = (n : Int) + (m : Int) + 2 := by rw [IntKind.wrap_i64]; omega
          have c1 : (1 : Int) ≤ (n : Int) + 1 := by omega
          have c3 : (0 : Int) ≤ (n : Int) + 2 := by omega
          have c4 : (n : Int) + 2 ≤ (n : Int) + (m : Int) + 2 := by omega
          have b1 : (n : Int) + 1 ≤ (s.size : Int) := by omega
          have b2 : (n : Int) + (m : Int) + 2 ≤ (s.size : Int) := by omega
          have K4 : Hid (Row encP 2 (wr.alloc (.cells #[.string (s.extract 1 (n + 1)), .string (s.extract (n + 2) (n + m + 2))] 56)).drew (.slice (some ⟨wr.heap.size, 0, none⟩) 1 1) [(s.extract 1 (n + 1), s.extract (n + 2) (n + m + 2))]) := Cl.row (x := (s.extract 1 (n + 1), s.extract (n + 2) (n + m + 2))) (Cl.new wr #[.string (s.extract 1 (n + 1)), .string (s.extract (n + 2) (n + m + 2))] 56)
          have O4 : Aside (OwnZ w.heap.size (wr.alloc (.cells #[.string (s.extract 1 (n + 1)), .string (s.extract (n + 2) (n + m + 2))] 56)).drew (.slice ao' n' c') out) := HO.out.below ((Below.refl _ wr).alloc (Nat.le_refl _) _).drew
          have B4 : Hid (Below w.heap.size w (wr.alloc (.cells #[.string (s.extract 1 (n + 1)), .string (s.extract (n + 2) (n + m + 2))] 56)).drew) := (HB.out.alloc HB.out.size _).drew
          have hs4 := B4.out.size
          obtain ⟨o2, ho2⟩ : ∃ o2, out ++ [(s.extract 1 (n + 1), s.extract (n + 2) (n + m + 2))] = o2 := ⟨_, rfl⟩
          have l2 : o2.length = out.length + 1 := by rw [← ho2]; simp
          have E2 : Hid (out ++ [(s.extract 1 (n + 1), s.extract (n + 2) (n + m + 2))] = o2) := ho2
          rw [ho2] at D2
          clear ho2
          go_upto_region 9 with fail
          first | go_region_held3 (fun _ => True) (trivial) ((refine step_z rfl _ _ rfl w.heap.size _ out rfl O4.out _ [(s.extract 1 (n + 1), s.extract (n + 2) (n + m + 2))] rfl K4.out (by simp; omega) hs4 o2 E2.out ?_; intro a5 n5 c5 w5 P5 Q5)) | fail
          have O6 : Aside (OwnZ w.heap.size w5 (.slice a5 n5 c5) o2) := P5
          have B6 : Hid (Below w.heap.size w w5) := Q5 _ B4.out
          clear P5 Q5 O4 K4 B4 hs4 E2
          have lz : (s.extract (n + m + 2) s.size).size = s.size - (n + m + 2) := by simp
          go_wp2
          go_roundg (s.size - (n + m + 2))
          case measure => omega
          case rel => exact ⟨a5, n5, c5, o2, s.extract (n + m + 2) s.size, rfl, rfl, by omega, by omega, D2, O6, B6⟩

end Go.Proofs.Ytmamnlphhiaeoaa

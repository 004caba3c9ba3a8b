/-
  The walks of package chain's Pages, and of the statements' works: the document's examples.
-/
import Derived.Test.YtnjnggjbeklmpaaGreatDoorChParse
import Derived.Test.YtnjnggjbeklmpaaGreatDoorBRunsB
import Derived.BigQuiet
namespace Go.Proofs.YtnjnggjbeklmpaaGreatDoor
open Go.Shelf Go.RowKit Go.Lib Go.Sort
set_option linter.unusedVariables false

set_option maxHeartbeats 400000 in
theorem pages_any (v : Value) (l : List Pr) (w : World) (h : Row encP 2 w v l) (hl : l.length ≤ 100000) :
    Calls Tryz.prog 20 #[v] w fun e w' => e = .returned (.int .i64 (pagesN (nmL l).length)) ∧ Below w.heap.size w w' := by
  have C : Hid _ := norm_own v l w h hl
  have hl2 := nmL_length l
  obtain ⟨la, lc, rfl, _⟩ := h
  generalize nmL l = s at *
  go_enter Tryz.func20, Tryz.ntmps20
  go_wp2_with fail
  refine Calls.mono C.out ?_
  rintro e w1 ⟨v1, rfl, o1, b1⟩
  obtain ⟨ao, cc, rfl, _⟩ := o1.own
  have B1 : Hid (Below w.heap.size w w1) := b1
  have CP : Hid _ := pagesOf_any ao s.length cc w1 (by omega)
  clear o1 b1 C
  go_wp2_with fail
  refine Calls.mono CP.out ?_
  rintro e w2 ⟨rfl, rfl⟩
  clear CP
  go_wp2
  go_ret
  exact ⟨rfl, B1.out⟩

def exL (n : Nat) : List Pr := (List.range n).map fun i : Nat => ((3 * (i : Int), 3 * (i : Int)) : Pr)
theorem exL_succ (n : Nat) : exL (n + 1) = exL n ++ [(3 * (n : Int), 3 * (n : Int))] := by simp [exL, List.range_succ]
theorem exL_length (n : Nat) : (exL n).length = n := by simp [exL]
theorem exL_pages : pagesN (nmL (exL 30)).length = 2 := by decide +kernel
theorem exB : bodyT 7 [(1, 3)] = [0, 0, 0, 7, 0, 1, 0, 0, 0, 1, 0, 0, 0, 3] := by decide +kernel
theorem exP : prs [0, 0, 0, 7, 0, 1, 0, 0, 0, 1, 0, 0, 0, 3] = (7, [(1, 3)], 0) := by decide +kernel
theorem exQ : prs [0, 0, 0, 7, 0, 1, 0, 0, 0, 1, 0, 0, 0, 3, 120] = (0, [], 3) := by decide +kernel
theorem str_eqL {X : ByteArray} {l : List UInt8} (h : X.data.toList = l) : (X.toList == l) = true := by
  rw [beq_iff_eq, Lib.toList_data, h]

set_option maxHeartbeats 2000000 in
set_option maxRecDepth 100000 in
theorem works_any (w : World) : Calls Tryz.prog 4 #[] w fun e w' => e = .returned (.bool true) ∧ Below w.heap.size w w' := by
  have CB : Hid (∀ u v, Row encP 2 u v [(1, 3)] → _) := fun u v h => body_any 7 v [(1, 3)] u h (by decide)
  rw [exB, show bodyE 7 [(1, 3)] = 0 from rfl] at CB
  obtain ⟨X, hX⟩ : ∃ X : ByteArray, X = ⟨#[0, 0, 0, 7, 0, 1, 0, 0, 0, 1, 0, 0, 0, 3]⟩ := ⟨_, rfl⟩
  have hz : X.size = 14 := by rw [hX]; rfl
  have CP1 : Hid (∀ u, _) := fun u => parse_any X u (by rw [hz]; decide)
  obtain ⟨Y, hY⟩ : ∃ Y : ByteArray, Y = X ++ (⟨#[120]⟩ : ByteArray) := ⟨_, rfl⟩
  have hYz : Y.size = 15 := by rw [hY, ByteArray.size_append, hz]; rfl
  have hYl : Y.data.toList = [0, 0, 0, 7, 0, 1, 0, 0, 0, 1, 0, 0, 0, 3, 120] := by rw [hY, ByteArray.data_append, hX]; rfl
  have CP2 : Hid (∀ u, _) := fun u => parse_any Y u (by rw [hYz]; decide)
  rw [hYl, exQ] at CP2
  rw [hY] at CP2
  clear hY hYz hYl
  rw [show X.data.toList = [0, 0, 0, 7, 0, 1, 0, 0, 0, 1, 0, 0, 0, 3] by rw [hX], exP] at CP1
  have hq : X.toList = [0, 0, 0, 7, 0, 1, 0, 0, 0, 1, 0, 0, 0, 3] := by rw [Lib.toList_data, hX]
  rw [show (⟨[0, 0, 0, 7, 0, 1, 0, 0, 0, 1, 0, 0, 0, 3].toArray⟩ : ByteArray) = X from hX.symm] at CB
  clear hX
  go_enter Tryz.func4, Tryz.ntmps4
  go_wp2
  go_loopg [1, 2] 30 (fun kx s1 s2 wr => ∃ (i : Nat) (ao' : Option Addr) (n' c' : Nat) (ls : List Pr), s1 = .slice ao' n' c' ∧ s2 = .int .i64 i ∧ i ≤ 30 ∧ 30 - i ≤ kx ∧ Aside (OwnP w.heap.size wr (.slice ao' n' c') ls) ∧ Hid (ls = exL i) ∧ Hid (Below w.heap.size w wr))
  case atStart => exact ⟨0, none, 0, 0, [], rfl, rfl, by omega, by omega, OwnP.empty _ _, rfl, Below.refl _ _⟩
  case round =>
    obtain ⟨i, ao', n', c', ls, rfl, rfl, hi, hki, HO, HE, HB⟩ := hrel
    by_cases hil : i < 30
    · have hilz : (i : Int) < 30 := by omega
      have hlen : ls.length < 1000000 := by rw [HE.out, exL_length]; omega
      have E2 : Hid (ls ++ [(3 * (i : Int), 3 * (i : Int))] = exL (i + 1)) := by show _ = _; rw [HE.out, exL_succ]
      have e1 : wrap64 (3 * (i : Int)) = 3 * (i : Int) := by unfold wrap64; omega
      have hs6 : w.heap.size ≤ wr.heap.size := HB.out.size
      go_wp2_with (at_builtin; refine app_run rfl _ _ rfl w.heap.size _ ls rfl (HO.out.alloc _) wr.heap.size 0 1 rfl ((3 * (i : Int), 3 * (i : Int)) : Pr) (by simp) (by simp) hlen (by simp; omega) ?_)
      intro ao7 n7 c7 w7 HO7 HB7 _
      have O7 : Aside (OwnP w.heap.size w7 (.slice ao7 n7 c7) (ls ++ [((3 * (i : Int), 3 * (i : Int)) : Pr)])) := HO7
      have B7 : Hid (Below w.heap.size w w7) := HB7 _ (HB.out.alloc hs6 _)
      clear HO7 HB7 HO HB
      go_wp2
      go_roundg (30 - (i + 1))
      case measure => omega
      case rel => exact ⟨i + 1, ao7, n7, c7, _, rfl, by go_num, by omega, Nat.le_refl _, O7, E2, B7⟩
    · have hilz : ¬ (i : Int) < 30 := by omega
      obtain rfl : i = 30 := by omega
      have hr1 : Hid (Row encP 2 (wr.alloc (.cells #[.int .i64 1, .int .i64 3] 51)) (.slice (some ⟨wr.heap.size, 0, none⟩) 1 1) [(1, 3)]) := row_block (Cl.new wr #[.int .i64 1, .int .i64 3] 51) (flat_one (1, 3)) rfl
      have B1 : Hid (Below w.heap.size w (wr.alloc (.cells #[.int .i64 1, .int .i64 3] 51))) := HB.out.alloc HB.out.size _
      have R1 : Aside (Row encP 2 (wr.alloc (.cells #[.int .i64 1, .int .i64 3] 51)) (.slice ao' n' c') ls) := (show OwnP w.heap.size _ _ _ from HO.out.alloc _).own.row
      have C1 : Hid _ := CB.out _ _ hr1.out
      clear HO HB hr1 CB
      go_wp2_with fail
      generalize wr.alloc (.cells #[.int .i64 1, .int .i64 3] 51) = w1 at *
      refine Calls.mono C1.out ?_
      rintro e w2 ⟨rfl, b2⟩
      have B2 : Hid (Below w.heap.size w w2) := B1.out.trans (b2.mono B1.out.size)
      have R2 : Aside (Row encP 2 w2 (.slice ao' n' c') ls) := R1.out.below b2
      clear b2 B1 R1 C1
      go_wp2_with fail
      refine Calls.mono (CP1.out w2) ?_
      rintro e w3 ⟨a3, n3, c3, rfl, o3, b3⟩
      have B3 : Hid (Below w.heap.size w w3) := B2.out.trans (b3.mono B2.out.size)
      have R3 : Aside (Row encP 2 w3 (.slice ao' n' c') ls) := R2.out.below b3
      obtain rfl : n3 = 1 := o3.len
      clear b3 B2 R2 CP1 o3
      go_wp2_with fail
      refine Calls.mono (CP2.out w3) ?_
      rintro e w4 ⟨a4, n4, c4, rfl, o4, b4⟩
      have B4 : Hid (Below w.heap.size w w4) := B3.out.trans (b4.mono B3.out.size)
      have R4 : Aside (Row encP 2 w4 (.slice ao' n' c') ls) := R3.out.below b4
      clear b4 B3 R3 CP2 o4
      have G1 : Hid _ := pages_any (.slice ao' n' c') ls w4 R4.out (by rw [HE.out, exL_length]; omega)
      rw [show pagesN (nmL ls).length = 2 by rw [HE.out]; exact exL_pages] at G1
      have G2 : Hid (∀ u, _) := fun u => pages_any (.slice none 0 0) [] u (Own.nil.row (base := 0)) (by decide)
      rw [show pagesN (nmL ([] : List Pr)).length = 0 from rfl] at G2
      clear R4 HE
      go_wp2_with fail
      refine Calls.mono G1.out ?_
      rintro e w5 ⟨rfl, b5⟩
      have B5 : Hid (Below w.heap.size w w5) := B4.out.trans (b5.mono B4.out.size)
      clear b5 B4 G1
      go_wp2_with fail
      refine Calls.mono (G2.out w5) ?_
      rintro e w6 ⟨rfl, b6⟩
      have B6 : Hid (Below w.heap.size w w6) := B5.out.trans (b6.mono B5.out.size)
      clear b6 B5 G2
      go_wp2
      go_ret
      exact ⟨rfl, B6.out⟩

end Go.Proofs.YtnjnggjbeklmpaaGreatDoor

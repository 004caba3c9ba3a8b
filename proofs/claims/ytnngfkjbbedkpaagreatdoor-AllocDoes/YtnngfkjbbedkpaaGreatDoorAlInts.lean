/-
  The walk of the document's SameInts.
-/
import Derived.Test.YtnngfkjbbedkpaaGreatDoorAlInv
import Derived.Deep.LoopGhost
namespace Go.Proofs.YtnngfkjbbedkpaaGreatDoor
open Go.Shelf Go.RowKit Go.Lib Go.Sort
set_option linter.unusedVariables false

set_option maxHeartbeats 1000000 in
set_option maxRecDepth 100000 in
theorem sameI_any (va vb : Value) (a b : List Int) (w : World) (ha : IntRow w va a) (hb : IntRow w vb b) (hl : a.length ≤ 1000000) (hl2 : b.length ≤ 1000000) :
    Calls Tryz.prog 31 #[va, vb] w fun e w' => e = .returned (.bool (decide (a = b))) ∧ Below w.heap.size w w' := by
  obtain ⟨ao, ca, rfl, _⟩ := id ha
  obtain ⟨bo, cb, rfl, _⟩ := id hb
  have HA : Aside (IntRow w (.slice ao a.length ca) a) := ha
  have HB : Aside (IntRow w (.slice bo b.length cb) b) := hb
  clear ha hb
  by_cases hlen : a.length = b.length
  · have HL : Hid (a.length = b.length) := hlen
    have hle1 : a.length ≤ b.length := by omega
    have hle2 : b.length ≤ a.length := by omega
    have hneq : ((a.length : Int) != (b.length : Int)) = false := by simp; omega
    clear hlen
    go_enter Tryz.func31, Tryz.ntmps31
    go_wp2
    go_loopg [5] a.length (fun kx s5 wr => ∃ (i : Nat), s5 = .int .i64 i ∧ i ≤ a.length ∧ a.length - i ≤ kx ∧ Hid (GR w wr) ∧ Hid (a.take i = b.take i))
    case atStart => exact ⟨0, rfl, Nat.zero_le _, Nat.le_refl _, GR.refl _, by simp [Hid]⟩
    case round =>
      obtain ⟨i, rfl, hi, hki, HG, HN⟩ := hrel
      by_cases hil : i < a.length
      · have hilz : (i : Int) < (a.length : Int) := by omega
        have hilb : i < b.length := by omega
        obtain ⟨ba, oa, rfl, hba, x1⟩ := (HA.out.below HG.out.below (Nat.le_refl _)).at hil
        obtain ⟨bb, ob, rfl, hbb, y1⟩ := (HB.out.below HG.out.below (Nat.le_refl _)).at hilb
        have T : Hid (a.take (i + 1) = a.take i ++ [a.getD i 0]) := by show _ = _; rw [List.take_succ_eq_append_getElem hil]; simp [List.getD_eq_getElem?_getD, hil]
        have T2 : Hid (b.take (i + 1) = b.take i ++ [b.getD i 0]) := by show _ = _; rw [List.take_succ_eq_append_getElem hilb]; simp [List.getD_eq_getElem?_getD, hilb]
        generalize a.getD i 0 = x at *
        generalize b.getD i 0 = y at *
        have HD : Hid (GR w wr.drew) := HG.out.drew
        by_cases he : x = y
        · have E : (x != y) = false := by simp [he]
          have HE : Hid (x = y) := he
          clear he
          go_wp2_with fail
          go_region
          all_goals go_wp2
          all_goals go_roundg (a.length - (i + 1))
          case measure => omega
          case rel =>
            refine ⟨i + 1, by go_num, by omega, Nat.le_refl _, HD, ?_⟩
            show _ = _
            rw [T.out, T2.out, HN.out, HE.out]
        · have E : (x != y) = true := by simp [he]
          have HE : Hid (x ≠ y) := he
          clear he
          go_wp2_with fail
          go_region
          all_goals go_wp2
          all_goals go_ret
          all_goals
            refine ⟨ret_bool (decide_eq_false fun h => HE.out ?_).symm, HD.out.below⟩
            subst h
            have := T.out.symm.trans T2.out
            simpa using this
      · have hilz : ¬ (i : Int) < (a.length : Int) := by omega
        obtain rfl : i = a.length := by omega
        go_wp2
        go_ret
        refine ⟨ret_bool (decide_eq_true ?_).symm, HG.out.below⟩
        have := HN.out
        rw [List.take_length, HL.out, List.take_length] at this
        exact this
  · have hneq : ((a.length : Int) != (b.length : Int)) = true := by simp; omega
    have HL : Hid (a.length ≠ b.length) := hlen
    clear hlen
    go_enter Tryz.func31, Tryz.ntmps31
    go_wp2
    go_ret
    exact ⟨ret_bool (decide_eq_false fun h => HL.out (by rw [h])).symm, Below.refl _ _⟩


theorem nums_snoc (k : Nat) : nums 0 (k + 1) = nums 0 k ++ [(k : Int)] := by
  unfold nums
  rw [List.range_succ, List.map_append]
  simp
/-- The fresh pages below a number. -/
def below (g : Fr) (k : Nat) : List Int := (nums 0 k).filter fun q => (g q).isSome
theorem below_succ (g : Fr) (k : Nat) : below g (k + 1) = below g k ++ (if (g (k : Int)).isSome = true then [(k : Int)] else []) := by
  unfold below
  rw [nums_snoc, List.filter_append]
  by_cases h : (g (k : Int)).isSome = true <;> simp [h]
theorem below_len (g : Fr) (k : Nat) : (below g k).length ≤ k := by
  unfold below
  refine Nat.le_trans (List.length_filter_le _ _) ?_
  simp [nums]
theorem below_keys {x : TX} {room : Nat} (ok : x.Ok room) : KeysOf x.fresh (below x.fresh x.pages) := by
  refine ⟨(nums_rise _ _).sublist List.filter_sublist, fun k => ?_⟩
  unfold below
  rw [List.mem_filter, mem_nums]
  constructor
  · exact fun h => h.2
  · intro h
    have := ok.fs k h
    exact ⟨by omega, h⟩

end Go.Proofs.YtnngfkjbbedkpaaGreatDoor

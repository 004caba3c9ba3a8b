/-
  The walk of the law DiffLists.
-/
import Derived.Test.YtljmkajpjjdnhaaGreatDoorTdLaw
import Derived.Test.YtljmkajpjjdnhaaGreatDoorTdWorks
namespace Go.Proofs.YtljmkajpjjdnhaaGreatDoor.N
open Go.Shelf Go.RowKit Go.Lib Go.Sort
set_option linter.unusedVariables false
set_option linter.unusedSectionVars false
variable [DecidableEq Dl] [Inhabited Dl] [Inhabited Th]

theorem li_df (a b : List En) : dfL a b = liL a b := by
  by_cases h : (rgB a && rgB b) = true
  · rw [Bool.and_eq_true] at h
    rw [dfL_is (rg_of h.1) (rg_of h.2)]
    unfold liL
    rw [h.1, h.2, if_pos (by rfl)]
  · unfold dfL liL
    rw [if_neg h, if_neg h]
theorem liL_len (a b : List En) : (liL a b).length ≤ a.length + b.length := by
  unfold liL
  split
  · exact mgD_len _ a b rfl
  · simp
theorem li_bound (a b : List En) (h1 : a.length ≤ 150) (h2 : b.length ≤ 150) : (liL a b).length ≤ 10000 := Nat.le_trans (liL_len a b) (Nat.le_trans (Nat.add_le_add h1 h2) (by decide))
theorem apP_len (l : List En) (ds : List Dl) (h1 : l.length ≤ 150) (h2 : ds.length ≤ 150) : (apP l ds).length ≤ 1000000 := by
  unfold apP
  split
  · exact Nat.le_trans (apL_len ds l) (Nat.le_trans (Nat.add_le_add h1 h2) (by decide))
  · exact Nat.le_trans h1 (by decide)
theorem max60 {n : Nat} (h : n ≤ 60) : n ≤ maxLen := Nat.le_trans h (by unfold maxLen; decide)

set_option maxRecDepth 100000 in
set_option maxHeartbeats 4000000 in
theorem diffLists (PO : PassOk) (va vb vd : Value) (a b : List En) (ds : List Dl) (w : World) (ha : Row encP 2 w va a) (hb : Row encP 2 w vb b) (hd : Row encD 5 w vd ds) :
    Calls Tryz.prog 3 #[va, vb, vd] w fun e w' => e = .returned (.bool true) ∧ Below w.heap.size w w' := by
  have HA : Hid (Row encP 2 w va a) := ha
  have HB : Hid (Row encP 2 w vb b) := hb
  have HD : Hid (Row encD 5 w vd ds) := hd
  obtain ⟨aa, ca, rfl, _⟩ := Row.shape ha
  obtain ⟨ab, cb, rfl, _⟩ := Row.shape hb
  obtain ⟨ad, cd, rfl, _, _, d3⟩ := hd
  have D3 : Aside (ds ≠ [] → ∃ b off, ad = some ⟨b, off, none⟩ ∧ b < w.heap.size ∧ CellsK encD 5 w b off ds) := d3
  clear ha hb d3
  have C0 : Hid _ := works14 PO w
  go_enter Tryz.func3, Tryz.ntmps3
  go_wp2_with fail
  refine Calls.mono C0.out ?_
  rintro e w1 ⟨rfl, hb1⟩
  have B1 : Hid (Below w.heap.size w w1) := hb1
  have C1 : Hid _ := overE_any (.slice aa a.length ca) a w1 (Row.to HA.out hb1 (Nat.le_refl _))
  have C2 : Hid _ := overE_any (.slice ab b.length cb) b w1 (Row.to HB.out hb1 (Nat.le_refl _))
  clear C0 hb1
  go_wp2_with fail
  refine Calls.mono C1.out ?_
  rintro e w2 ⟨rfl, rfl⟩
  go_wp2_with fail
  refine Calls.mono C2.out ?_
  rintro e w2 ⟨rfl, rfl⟩
  clear C1 C2
  cases oa : ovE a
  · cases ob : ovE b
    · obtain ⟨la, ka⟩ := ovE_no oa
      obtain ⟨lb, kb⟩ := ovE_no ob
      have KA : Hid (a.length ≤ 150 ∧ b.length ≤ 150 ∧ (∀ x ∈ a, x.1.size ≤ 60 ∧ x.2.size ≤ 60)) := ⟨la, lb, ka⟩
      clear la ka lb kb oa ob
      by_cases hn : 150 < ds.length
      · have hnz : (150 : Int) < (ds.length : Int) := by omega
        go_wp2
        go_ret
        exact ⟨rfl, B1.out⟩
      · have hnz : ¬ (150 : Int) < (ds.length : Int) := by omega
        have LD : Hid (ds.length ≤ 150) := by show _ ≤ _; omega
        have E1 : Hid (∀ i : Nat, i < ds.length → wrap64 ((i : Int) + 1) = (i : Int) + 1) := fun i hi => by unfold wrap64; omega
        clear hn
        go_wp2
        clear hnz
        go_loopg [10] ds.length (fun kx s10 wr => ∃ (i : Nat), s10 = .int .i64 i ∧ i ≤ ds.length ∧ ds.length - i ≤ kx ∧ wr = w1 ∧ Hid (∀ d ∈ ds.take i, d.key.size ≤ 60))
        case atStart => exact ⟨0, rfl, Nat.zero_le _, Nat.le_refl _, rfl, fun d hd => by simp at hd⟩
        case round =>
          obtain ⟨i, rfl, hi, hki, rfl, HK⟩ := hrel
          by_cases hil : i < ds.length
          · have hilz : (i : Int) < (ds.length : Int) := by omega
            have HI2 : Hid (i < ds.length ∧ i ≤ ds.length ∧ ds.length - i ≤ gk) := ⟨hil, hi, hki⟩
            have e1 := E1.out i hil
            obtain ⟨q, off, rfl, hq, x0, x1, x2, x3, x4⟩ := rowD_at D3.out i hil B1.out
            have T : Hid (ds.take (i + 1) = ds.take i ++ [ds[i]!]) := take_next hil
            clear hq hil hi hki x3 x4
            generalize ds[i]! = d at *
            by_cases c1 : (60 : Int) < (d.key.size : Int)
            · go_wp2
              go_ret
              exact ⟨rfl, B1.out⟩
            · by_cases c2 : (60 : Int) < (d.new.size : Int)
              · go_wp2
                go_ret
                exact ⟨rfl, B1.out⟩
              · by_cases c3 : (60 : Int) < (d.old.size : Int)
                · go_wp2
                  go_ret
                  exact ⟨rfl, B1.out⟩
                · have N2 : Hid (∀ y ∈ ds.take (i + 1), y.key.size ≤ 60) := fun y hy => by
                    rw [T.out] at hy
                    rcases List.mem_append.1 hy with e | e
                    · exact HK.out y e
                    · rw [List.mem_singleton.1 e]; omega
                  clear HK T
                  go_wp2
                  go_roundg (ds.length - (i + 1))
                  case measure => (have := HI2.out; omega)
                  case rel => exact ⟨i + 1, by simp, (by have := HI2.out; omega), Nat.le_refl _, rfl, N2⟩
          · have hilz : ¬ (i : Int) < (ds.length : Int) := by omega
            obtain rfl : i = ds.length := by omega
            have KD : Hid (∀ d ∈ ds, d.key.size ≤ maxLen) := fun d hd => max60 (HK.out d (by rw [List.take_length]; exact hd))
            have CL : Hid _ := lists_any PO (.slice aa a.length ca) (.slice ab b.length cb) a b (Row.to HA.out B1.out (Nat.le_refl _)) (Row.to HB.out B1.out (Nat.le_refl _)) (Nat.le_trans KA.out.1 (by decide)) (Nat.le_trans KA.out.2.1 (by decide))
            have LB : Hid _ := li_bound a b KA.out.1 KA.out.2.1
            have LF := li_df a b
            clear hki hi HK E1 D3
            go_wp2_with fail
            refine Calls.mono CL.out ?_
            rintro e w2 ⟨a2, c2, rfl, o2, b2⟩
            have B2 : Hid (Below w.heap.size w w2) := B1.out.trans (b2.mono B1.out.size)
            have R2 : Hid (Row encD 5 w2 (.slice a2 (liL a b).length c2) (liL a b)) := OwnD.row o2
            have CR : Hid _ := rlists_any (.slice aa a.length ca) (.slice ab b.length cb) a b w2 (Row.to HA.out B2.out (Nat.le_refl _)) (Row.to HB.out B2.out (Nat.le_refl _)) (Nat.le_trans KA.out.1 (by decide)) (Nat.le_trans KA.out.2.1 (by decide))
            rw [LF] at CR
            clear CL o2 b2 LF
            generalize liL a b = s at *
            go_wp2_with fail
            refine Calls.mono CR.out ?_
            rintro e w3 ⟨a3, c3, rfl, o3, b3⟩
            have B3 : Hid (Below w.heap.size w w3) := B2.out.trans (b3.mono B2.out.size)
            have CS : Hid _ := sameD_yes (.slice a2 s.length c2) (.slice a3 s.length c3) s w3 (RowD.to R2.out b3 (Nat.le_refl _)) (rowQ o3) (Nat.le_trans LB.out (by decide))
            clear CR o3 b3 R2
            go_wp2_with fail
            refine Calls.mono CS.out ?_
            rintro e w4 ⟨rfl, b4⟩
            have B4 : Hid (Below w.heap.size w w4) := B3.out.trans (b4.mono B3.out.size)
            clear CS b4
            have CO : Hid _ := of_any (.slice ad ds.length cd) ds w4 (RowD.to HD.out B4.out (Nat.le_refl _)) (Nat.le_trans LD.out (by decide))
            go_wp2_with fail
            refine Calls.mono CO.out ?_
            rintro e w5 ⟨a5, c5, rfl, o5, b5⟩
            have B5 : Hid (Below w.heap.size w w5) := B4.out.trans (b5.mono B4.out.size)
            have CA : Hid _ := apply_any (.slice aa a.length ca) (.slice a5 ds.length c5) a ds w5 (Row.to HA.out B5.out (Nat.le_refl _)) (OwnD.row o5) (Nat.le_trans KA.out.1 (by decide)) (Nat.le_trans LD.out (by decide)) KD.out (fun x hx => max60 (KA.out.2.2 x hx).1)
            clear CO o5 b5
            go_wp2_with fail
            refine Calls.mono CA.out ?_
            rintro e w6 ⟨v6, rfl, o6, b6⟩
            have B6 : Hid (Below w.heap.size w w6) := B5.out.trans (b6.mono B5.out.size)
            have R6 : Hid (Row encP 2 w6 v6 (apP a ds)) := o6.row
            have CB : Hid _ := rapply_any (.slice aa a.length ca) (.slice ad ds.length cd) a ds w6 (Row.to HA.out B6.out (Nat.le_refl _)) (RowD.to HD.out B6.out (Nat.le_refl _)) (Nat.le_trans KA.out.1 (by decide)) (Nat.le_trans LD.out (by decide))
            have LA : Hid _ := apP_len a ds KA.out.1 LD.out
            clear CA o6 b6
            generalize apP a ds = r at *
            obtain ⟨a6, c6, rfl, _⟩ := Row.shape R6.out
            go_wp2_with fail
            refine Calls.mono CB.out ?_
            rintro e w7 ⟨a7, n7, c7, rfl, r7, b7⟩
            have B7 : Hid (Below w.heap.size w w7) := B6.out.trans (b7.mono B6.out.size)
            have CE : Hid _ := same_any (.slice a6 r.length c6) (.slice a7 n7 c7) r r w7 (Row.to R6.out b7 (Nat.le_refl _)) r7 LA.out LA.out
            rw [decide_eq_true rfl] at CE
            clear CB r7 b7
            go_wp2_with fail
            refine Calls.mono CE.out ?_
            rintro e w8 ⟨rfl, b8⟩
            have B8 : Hid (Below w.heap.size w w8) := B7.out.trans (b8.mono B7.out.size)
            clear CE b8
            go_wp2
            go_ret
            exact ⟨rfl, B8.out⟩
    · go_wp2
      go_ret
      exact ⟨rfl, B1.out⟩
  · generalize ovE b = ob at *
    go_wp2
    go_ret
    exact ⟨rfl, B1.out⟩

end Go.Proofs.YtljmkajpjjdnhaaGreatDoor.N

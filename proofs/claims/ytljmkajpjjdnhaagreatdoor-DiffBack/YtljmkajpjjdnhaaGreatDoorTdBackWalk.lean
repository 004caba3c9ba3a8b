/-
  The walk of the law DiffBack.
-/
import Derived.Test.YtljmkajpjjdnhaaGreatDoorTdListsWalk
import Derived.Deep.QuietTactic
import Derived.BigQuiet
namespace Go.Proofs.YtljmkajpjjdnhaaGreatDoor.N
open Go.Shelf Go.RowKit Go.Lib Go.Sort
set_option linter.unusedVariables false
set_option linter.unusedSectionVars false
variable [DecidableEq Dl] [Inhabited Dl] [Inhabited Th]

theorem neqD (d : Dl) (w : World) : Sem.run Tryz.prog (binOp .neq 37 (dlV d) (dlV d)) w = .ok (.bool false) w := by
  rw [run_neq_struct, equalD]
  rfl
theorem liL_right {a b : List En} (ha : Rg a) (hb : Rg b) : liL a b = mgD a b := by
  unfold liL
  rw [rgB_of ha, rgB_of hb, if_pos (by rfl)]
theorem apP_right {l : List En} {ds : List Dl} (h : Rg l) : apP l ds = apL l ds := by
  unfold apP
  rw [rgB_of h, if_pos rfl]
/-- The deltas the other way round, one by one. -/
theorem turn_at {a b : List En} (ha : Rg a) (hb : Rg b) {i : Nat} (hi : i < (mgD a b).length) : (mgD b a)[i]! = tnD (mgD a b)[i]! := by
  rw [mgD_turn ha hb, getElem!_pos _ i (by simpa using hi), getElem!_pos _ i hi]
  simp
theorem rise_at {a b : List En} (ha : Rg a) (hb : Rg b) {i : Nat} (hi : i + 1 < (mgD a b).length) : ltK (mgD a b)[i]!.key (mgD a b)[i + 1]!.key = true := by
  have h := (List.pairwise_iff_getElem.1 (mgD_rise ha hb)) i (i + 1) (by omega) hi (Nat.lt_succ_self i)
  rw [getElem!_pos _ i (by omega), getElem!_pos _ (i + 1) hi]
  exact h

set_option maxRecDepth 100000 in
set_option maxHeartbeats 4000000 in
theorem diffBack (PO : PassOk) (va vb : Value) (a b : List En) (w : World) (ha : Row encP 2 w va a) (hb : Row encP 2 w vb b) (ln1 : a.length ≤ 9223372036854775807) (ln2 : b.length ≤ 9223372036854775807) :
    Calls Tryz.prog 4 #[va, vb] w fun e w' => e = .returned (.bool true) ∧ Below w.heap.size w w' := by
  have HA : Hid (Row encP 2 w va a) := ha
  have HB : Hid (Row encP 2 w vb b) := hb
  have LN : Hid (a.length ≤ 9223372036854775807 ∧ b.length ≤ 9223372036854775807) := ⟨ln1, ln2⟩
  obtain ⟨aa, ca, rfl, _⟩ := Row.shape ha
  obtain ⟨ab, cb, rfl, _⟩ := Row.shape hb
  clear ha hb ln1 ln2
  have C0 : Hid _ := works14 PO w
  go_enter Tryz.func4, Tryz.ntmps4
  go_wp2_with fail
  refine Calls.mono C0.out ?_
  rintro e w1 ⟨rfl, hb1⟩
  have B1 : Hid (Below w.heap.size w w1) := hb1
  have C1 : Hid _ := overE_any (.slice aa a.length ca) a w1 (Row.to HA.out hb1 (Nat.le_refl _))
  have C2 : Hid _ := overE_any (.slice ab b.length cb) b w1 (Row.to HB.out hb1 (Nat.le_refl _))
  have C3 : Hid _ := rright_any (.slice aa a.length ca) a w1 (Row.to HA.out hb1 (Nat.le_refl _)) LN.out.1
  clear C0 hb1
  go_wp2_with fail
  refine Calls.mono C1.out ?_
  rintro e w2 ⟨rfl, rfl⟩
  go_wp2_with fail
  refine Calls.mono C2.out ?_
  rintro e w2 ⟨rfl, rfl⟩
  go_wp2_with fail
  refine Calls.mono C3.out ?_
  rintro e w2 ⟨rfl, hb2⟩
  have B2 : Hid (Below w.heap.size w w2) := B1.out.trans (hb2.mono B1.out.size)
  have C4 : Hid _ := rright_any (.slice ab b.length cb) b w2 (Row.to HB.out B2.out (Nat.le_refl _)) LN.out.2
  clear C1 C2 C3 hb2 LN
  go_wp2_with fail
  refine Calls.mono C4.out ?_
  rintro e w3 ⟨rfl, hb3⟩
  have B3 : Hid (Below w.heap.size w w3) := B2.out.trans (hb3.mono B2.out.size)
  clear C4 hb3 B1 B2
  by_cases hok : ovE a = false ∧ ovE b = false ∧ rgB a = true ∧ rgB b = true
  · obtain ⟨oa, ob, ra, rb⟩ := hok
    have HO : Hid _ := (⟨ovE_no oa, ovE_no ob, rg_of ra, rg_of rb⟩ : (a.length ≤ 150 ∧ ∀ x ∈ a, x.1.size ≤ 60 ∧ x.2.size ≤ 60) ∧ (b.length ≤ 150 ∧ ∀ x ∈ b, x.1.size ≤ 60 ∧ x.2.size ≤ 60) ∧ Rg a ∧ Rg b)
    rw [oa, ob, ra, rb]
    clear oa ob ra rb
    have L1 : Hid (a.length ≤ 10000 ∧ b.length ≤ 10000) := ⟨Nat.le_trans HO.out.1.1 (by decide), Nat.le_trans HO.out.2.1.1 (by decide)⟩
    have RA := HO.out.2.2.1
    have RB := HO.out.2.2.2
    have CL : Hid _ := lists_any PO (.slice aa a.length ca) (.slice ab b.length cb) a b (Row.to HA.out B3.out (Nat.le_refl _)) (Row.to HB.out B3.out (Nat.le_refl _)) L1.out.1 L1.out.2
    rw [liL_right RA RB] at CL
    go_wp2_with fail
    refine Calls.mono CL.out ?_
    rintro e w4 ⟨ad, cd, rfl, od, bd⟩
    have B4 : Hid (Below w.heap.size w w4) := B3.out.trans (bd.mono B3.out.size)
    have D4 : Hid (Row encD 5 w4 (.slice ad (mgD a b).length cd) (mgD a b)) := OwnD.row od
    have CM : Hid _ := lists_any PO (.slice ab b.length cb) (.slice aa a.length ca) b a (Row.to HB.out B4.out (Nat.le_refl _)) (Row.to HA.out B4.out (Nat.le_refl _)) L1.out.2 L1.out.1
    rw [liL_right RB RA] at CM
    clear CL od bd B3
    go_wp2_with fail
    refine Calls.mono CM.out ?_
    rintro e w5 ⟨ae, ce, rfl, oe, be⟩
    have B5 : Hid (Below w.heap.size w w5) := B4.out.trans (be.mono B4.out.size)
    have D5 : Hid (Row encD 5 w5 (.slice ad (mgD a b).length cd) (mgD a b)) := RowD.to D4.out be (Nat.le_refl _)
    have E5 : Hid (Row encD 5 w5 (.slice ae (mgD b a).length ce) (mgD b a)) := OwnD.row oe
    have CN : Hid _ := lists_any PO (.slice aa a.length ca) (.slice aa a.length ca) a a (Row.to HA.out B5.out (Nat.le_refl _)) (Row.to HA.out B5.out (Nat.le_refl _)) L1.out.1 L1.out.1
    rw [liL_right RA RA, mgD_same RA] at CN
    have HLE : Hid ((mgD b a).length = (mgD a b).length) := by show _ = _; rw [mgD_turn RA RB, List.length_map]
    have TA : Hid (∀ i, i < (mgD a b).length → (mgD b a)[i]! = tnD (mgD a b)[i]!) := fun i hi => turn_at RA RB hi
    have RI : Hid (∀ i, i + 1 < (mgD a b).length → ltK (mgD a b)[i]!.key (mgD a b)[i + 1]!.key = true) := fun i hi => rise_at RA RB hi
    have LD : Hid ((mgD a b).length ≤ 10000) := by show _ ≤ _; have := li_bound a b HO.out.1.1 HO.out.2.1.1; rwa [liL_right RA RB] at this
    have T1 : Hid (apP a (mgD a b) = b) := by show _ = _; rw [apP_right RA, apL_there RA RB]
    have T2 : Hid (apP b (mgD b a) = a) := by show _ = _; rw [apP_right RB, apL_there RB RA]
    have KD : Hid ((∀ d ∈ mgD a b, d.key.size ≤ maxLen) ∧ ∀ d ∈ mgD b a, d.key.size ≤ maxLen) := by
      constructor
      · intro d hd
        rcases ((mgD_of RA RB).1 hd).key with ⟨x, hx, e⟩ | ⟨x, hx, e⟩
        · rw [← e]; exact max60 (HO.out.1.2 x hx).1
        · rw [← e]; exact max60 (HO.out.2.1.2 x hx).1
      · intro d hd
        rcases ((mgD_of RB RA).1 hd).key with ⟨x, hx, e⟩ | ⟨x, hx, e⟩
        · rw [← e]; exact max60 (HO.out.2.1.2 x hx).1
        · rw [← e]; exact max60 (HO.out.1.2 x hx).1
    clear CM oe be RA RB D4 B4
    generalize mgD a b = s at *
    generalize mgD b a = t at *
    rw [HLE.out] at E5 ⊢
    go_wp2_with fail
    refine Calls.mono CN.out ?_
    rintro e w6 ⟨ah, ch, rfl, oh, bh⟩
    have B6 : Hid (Below w.heap.size w w6) := B5.out.trans (bh.mono B5.out.size)
    have D6 : Hid (Row encD 5 w6 (.slice ad s.length cd) s) := RowD.to D5.out bh (Nat.le_refl _)
    have E6 : Hid (Row encD 5 w6 (.slice ae s.length ce) t) := RowD.to E5.out bh (Nat.le_refl _)
    clear CN oh bh D5 E5 B5
    simp only [List.length_nil]
    go_wp2
    have E1 : Hid (∀ i : Nat, i < s.length → wrap64 ((i : Int) + 1) = (i : Int) + 1) := fun i hi => by have := LD.out; unfold wrap64; omega
    obtain ⟨_, _, er, _, _, d3⟩ := id D6.out
    cases er
    have D3 : Aside (s ≠ [] → ∃ b off, ad = some ⟨b, off, none⟩ ∧ b < w6.heap.size ∧ CellsK encD 5 w6 b off s) := d3
    clear d3
    obtain ⟨ae', ce', er, _, _, e3⟩ := id E6.out
    have E3 : Aside (t ≠ [] → ∃ b off, ae = some ⟨b, off, none⟩ ∧ b < w6.heap.size ∧ CellsK encD 5 w6 b off t) := by injection er with e1 e2 e3'; subst e1; exact e3
    clear e3 er
    go_loopg [12] s.length (fun kx s12 wr => ∃ i : Nat, s12 = .int .i64 i ∧ i ≤ s.length ∧ s.length - i ≤ kx ∧ Hid (Below w6.heap.size w6 wr))
    case atStart => exact ⟨0, rfl, Nat.zero_le _, Nat.le_refl _, Below.refl _ _⟩
    case round =>
      obtain ⟨i, rfl, hi, hki, HW⟩ := hrel
      by_cases hil : i < s.length
      · have hilz : (i : Int) < (s.length : Int) := by omega
        have HI2 : Hid (i < s.length ∧ i ≤ s.length ∧ s.length - i ≤ gk) := ⟨hil, hi, hki⟩
        have e1 := E1.out i hil
        obtain ⟨q, off, rfl, hq, x0, x1, x2, x3, x4⟩ := rowD_at D3.out i hil HW.out
        have hqz : q < wr.heap.size := Nat.lt_of_lt_of_le hq HW.out.size
        obtain ⟨qe, oe, rfl, hqe, y0, y1, y2, y3, y4⟩ := rowD_at E3.out i (by rw [HLE.out]; exact hil) HW.out
        have hqez : qe < wr.heap.size := Nat.lt_of_lt_of_le hqe HW.out.size
        rw [TA.out i hil] at y0 y1 y2 y3 y4
        have RP : i = 0 ∨ ∃ j z, i = j + 1 ∧ wr.cell? ⟨q, off + j * 5, none⟩ = some (.string z) ∧ ltK z s[i]!.key = true := by
          cases i with
          | zero => exact .inl rfl
          | succ j =>
            obtain ⟨q', off', eq', _, z0, _⟩ := rowD_at D3.out j (Nat.lt_of_succ_lt hil) HW.out
            cases eq'
            exact .inr ⟨j, _, rfl, z0, RI.out j hil⟩
        generalize s[i]! = d at x0 x1 x2 x3 x4 y0 y1 y2 y3 y4 RP
        have HZ : ∀ nq, Hid (Below w6.heap.size w6 ((wr.alloc (.cells #[.string d.key, .string d.new, .string d.old, .bool d.is, .bool d.was] 37)).drewN nq)) := fun nq => by have := below_grown (HW.out.alloc HW.out.size (.cells #[.string d.key, .string d.new, .string d.old, .bool d.is, .bool d.was] 37)) (Nat.le_trans HW.out.size (by simp)) nq #[]; rw [grow_empty] at this; exact this
        have N0 : ∀ u, _ := fun u => neqD (tnD d) u
        have G0 : ∀ op a b u, _ := fun op a b u => gdD op a b (tnD d) (tnD d) u
        unfold tnD at y0 y1 y2 y3 y4 N0 G0
        dsimp only at y0 y1 y2 y3 y4 N0 G0
        clear hq hil hi hki hqe TA RI
        rcases RP with rfl | ⟨j, z, hij, z0, hlt⟩
        · have hz : decide ((0 : Int) < ((0 : Nat) : Int)) = false := by decide
          simp only [Nat.zero_mul, Nat.add_zero] at x0 x1 x2 x3 x4 y0 y1 y2 y3 y4
          go_wp2_with fail
          go_region
          all_goals
            go_wp2_with fail
            go_quiet (fail)
            go_wp2
            go_roundg (s.length - (0 + 1))
            case measure => (have := HI2.out; omega)
            case rel => exact ⟨0 + 1, by simp, (by have := HI2.out; omega), Nat.le_refl _, HZ (1 + nq)⟩
        · have hz4 : (0 : Int) < (i : Int) := by omega
          have hz3 : 0 < i := by omega
          have hz : decide ((0 : Int) < (i : Int)) = true := decide_eq_true hz4
          have hz2 : decide (0 < i) = true := decide_eq_true hz3
          have e2 : wrap64 ((i : Int) - 1) = (j : Int) := by have := HI2.out; have := LD.out; unfold wrap64; omega
          have hlj : (j : Int) < (s.length : Int) := by have := HI2.out; omega
          have hbl : Op.bytesLess z.toList d.key.toList = true := hlt
          have HIJ : Hid (i = j + 1) := hij
          clear hij hlt
          go_wp2_with fail
          go_region
          all_goals
            go_wp2_with fail
            go_quiet (fail)
            go_wp2
            go_roundg (s.length - (i + 1))
            case measure => (have := HI2.out; omega)
            case rel => exact ⟨i + 1, by simp [e1], (by have := HI2.out; omega), Nat.le_refl _, HZ (1 + nq)⟩
      · have hilz : ¬ (i : Int) < (s.length : Int) := by omega
        obtain rfl : i = s.length := by omega
        have B7 : Hid (Below w.heap.size w wr) := B6.out.trans (HW.out.mono B6.out.size)
        have CA : Hid _ := apply_any (.slice aa a.length ca) (.slice ad s.length cd) a s wr (Row.to HA.out B7.out (Nat.le_refl _)) (RowD.to D6.out HW.out (Nat.le_refl _)) L1.out.1 LD.out KD.out.1 (fun x hx => max60 (HO.out.1.2 x hx).1)
        rw [T1.out] at CA
        clear hki hi E1 D3
        go_wp2_with fail
        refine Calls.mono CA.out ?_
        rintro e w7 ⟨v7, rfl, o7, b7⟩
        have B8 : Hid (Below w.heap.size w w7) := B7.out.trans (b7.mono B7.out.size)
        have W8 : Hid (Below w6.heap.size w6 w7) := HW.out.trans (b7.mono HW.out.size)
        have CS : Hid _ := same_any v7 (.slice ab b.length cb) b b w7 o7.row (Row.to HB.out B8.out (Nat.le_refl _)) (Nat.le_trans L1.out.2 (by decide)) (Nat.le_trans L1.out.2 (by decide))
        rw [decide_eq_true rfl] at CS
        clear CA o7 b7
        go_wp2_with fail
        refine Calls.mono CS.out ?_
        rintro e w8 ⟨rfl, b8⟩
        have B9 : Hid (Below w.heap.size w w8) := B8.out.trans (b8.mono B8.out.size)
        have W9 : Hid (Below w6.heap.size w6 w8) := W8.out.trans (b8.mono W8.out.size)
        have CB : Hid _ := apply_any (.slice ab b.length cb) (.slice ae s.length ce) b t w8 (Row.to HB.out B9.out (Nat.le_refl _)) (RowD.to E6.out W9.out (Nat.le_refl _)) L1.out.2 (by rw [HLE.out]; exact LD.out) KD.out.2 (fun x hx => max60 (HO.out.2.1.2 x hx).1)
        rw [T2.out] at CB
        clear CS b8 B8 W8
        go_wp2_with fail
        refine Calls.mono CB.out ?_
        rintro e w9 ⟨v9, rfl, o9, b9⟩
        have C9 : Hid (Below w.heap.size w w9) := B9.out.trans (b9.mono B9.out.size)
        have CE : Hid _ := same_any v9 (.slice aa a.length ca) a a w9 o9.row (Row.to HA.out C9.out (Nat.le_refl _)) (Nat.le_trans L1.out.1 (by decide)) (Nat.le_trans L1.out.1 (by decide))
        rw [decide_eq_true rfl] at CE
        clear CB o9 b9
        go_wp2_with fail
        refine Calls.mono CE.out ?_
        rintro e w10 ⟨rfl, b10⟩
        have C10 : Hid (Below w.heap.size w w10) := C9.out.trans (b10.mono C9.out.size)
        clear CE b10
        go_wp2
        go_ret
        exact ⟨rfl, C10.out⟩
  · have HX : (ovE a || ovE b || !rgB a || !rgB b) = true := by
      cases h1 : ovE a <;> cases h2 : ovE b <;> cases h3 : rgB a <;> cases h4 : rgB b <;> simp [h1, h2, h3, h4] at hok ⊢
    generalize ovE a = oa at *
    generalize ovE b = ob at *
    generalize rgB a = ra at *
    generalize rgB b = rb at *
    clear hok
    cases oa <;> cases ob <;> cases ra <;> cases rb <;> (first | (simp at HX; done) | skip)
    all_goals
      clear HX
      go_wp2
      go_ret
      exact ⟨rfl, B3.out⟩

end Go.Proofs.YtljmkajpjjdnhaaGreatDoor.N

/-
  The walk of the document's Apply of layer 14.
-/
import Derived.Test.YtljmkajpjjdnhaaGreatDoorTdApply
import Derived.Test.YtljmkajpjjdnhaaGreatDoorBEnR
namespace Go.Proofs.YtljmkajpjjdnhaaGreatDoor.N
open Go.Shelf Go.RowKit Go.Lib Go.Sort
set_option linter.unusedVariables false
set_option linter.unusedSectionVars false
variable [DecidableEq Dl] [Inhabited Dl] [Inhabited Th]

theorem apL_take {l : List En} {ds : List Dl} {i : Nat} (h : i < ds.length) : apL l (ds.take (i + 1)) = ap1 (apL l (ds.take i)) ds[i]! := by
  rw [take_next h, apL_snoc]
theorem insL_len (x : En) (m : List En) : (insL x m).length = m.length + 1 := by
  induction m with
  | nil => rfl
  | cons y m ih =>
    unfold insL
    split
    · simp
    · simp [ih]
theorem ap1_len (l : List En) (d : Dl) : (ap1 l d).length ≤ l.length + 1 := by
  unfold ap1
  split
  · split
    · unfold ptL
      rw [insL_len]
      have : (dlL l d.key).length ≤ l.length := List.length_filter_le _ _
      omega
    · omega
  · have : (dlL l d.key).length ≤ l.length := List.length_filter_le _ _
    omega
theorem apL_len : ∀ (ds : List Dl) (l : List En), (apL l ds).length ≤ l.length + ds.length
  | [], _ => Nat.le_refl _
  | d :: ds, l => by
    have h1 := apL_len ds (ap1 l d)
    have h2 := ap1_len l d
    show (apL (ap1 l d) ds).length ≤ _
    simp only [List.length_cons]
    omega
theorem ap_bound (l : List En) (ds : List Dl) (i : Nat) (h1 : l.length ≤ 10000) (h2 : ds.length ≤ 10000) : (apL l (ds.take i)).length ≤ 100000 :=
  Nat.le_trans (apL_len (ds.take i) l) (Nat.le_trans (Nat.add_le_add h1 (Nat.le_trans (List.length_take_le' i ds) h2)) (by decide))
def GvA (w : World) (l : List En) (e : Ending) (w' : World) : Prop := ∃ ao n c, e = .returned (.slice ao n c) ∧ Row encP 2 w' (.slice ao n c) l ∧ Below w.heap.size w w'

set_option maxRecDepth 100000 in
set_option maxHeartbeats 4000000 in
theorem rapply_any (vl vd : Value) (l : List En) (ds : List Dl) (w : World) (hL : Row encP 2 w vl l) (hD : Row encD 5 w vd ds) (hl : l.length ≤ 10000) (hl2 : ds.length ≤ 10000) :
    Calls Tryz.prog 13 #[vl, vd] w (GvA w (apP l ds)) := by
  have HL : Hid (Row encP 2 w vl l) := hL
  obtain ⟨ao, c, rfl, _⟩ := Row.shape hL
  obtain ⟨ao2, c2, rfl, _, _, g3⟩ := hD
  have G3 : Aside (ds ≠ [] → ∃ b off, ao2 = some ⟨b, off, none⟩ ∧ b < w.heap.size ∧ CellsK encD 5 w b off ds) := g3
  clear g3 hL
  by_cases hr : rgB l = true
  · have E : Hid (apP l ds = apL l ds) := by show _ = _; unfold apP; rw [if_pos hr]
    have HG : Hid (Rg l) := rg_of hr
    have HN : Hid (∀ i, (apL l (ds.take i)).length ≤ 100000) := fun i => ap_bound l ds i hl hl2
    have e1 : ∀ i : Nat, i < ds.length → wrap64 ((i : Int) + 1) = (i : Int) + 1 := fun i hi => by unfold wrap64; omega
    have E1 : Hid _ := e1
    clear hr hl hl2 e1
    generalize l.length = nl at *
    go_enter Tryz.func13, Tryz.ntmps13
    go_wp2
    go_loopg [0, 5] ds.length (fun kx s0 s5 wr => ∃ (i : Nat) (ao : Option Addr) (n c : Nat) (cur : List En), s0 = .slice ao n c ∧ s5 = .int .i64 i ∧ i ≤ ds.length ∧ ds.length - i ≤ kx ∧ Hid (Row encP 2 wr (.slice ao n c) cur) ∧ Hid (cur = apL l (ds.take i)) ∧ Hid (Below w.heap.size w wr))
    case atStart => exact ⟨0, ao, _, c, l, rfl, rfl, Nat.zero_le _, Nat.le_refl _, HL, rfl, Below.refl _ _⟩
    case round =>
      clear HL
      obtain ⟨i, ao, n, c, cur, rfl, rfl, hi, hki, HR, HC, HBw⟩ := hrel
      by_cases hil : i < ds.length
      · have hilz : (i : Int) < (ds.length : Int) := by omega
        have HI2 : Hid (i < ds.length ∧ i ≤ ds.length ∧ ds.length - i ≤ gk) := ⟨hil, hi, hki⟩
        have e1 := E1.out i hil
        have TK : Hid (apL l (ds.take (i + 1)) = ap1 cur ds[i]!) := by show _ = _; rw [apL_take hil, HC.out]
        have HRG : Rg cur := by rw [HC.out]; exact apL_rg HG.out
        have hlc : cur.length ≤ 100000 := by rw [HC.out]; exact HN.out i
        have CR : Hid _ := rright_any (.slice ao n c) cur wr HR.out (Nat.le_trans hlc (by decide))
        rw [rgB_of HRG] at CR
        have HLC : Hid (cur.length ≤ 100000) := hlc
        clear HRG hlc hil hi hki HC
        go_wp2_with fail
        refine Calls.mono CR.out ?_
        rintro e w3 ⟨rfl, hb3⟩
        have R3 : Hid (Row encP 2 w3 (.slice ao n c) cur) := Row.to HR.out hb3 (Nat.le_refl _)
        have B3 : Hid (Below w.heap.size w w3) := HBw.out.trans (hb3.mono HBw.out.size)
        clear CR hb3 HR HBw
        obtain ⟨b, off, rfl, hq, x0, x1, x2, x3, x4⟩ := rowD_at G3.out i HI2.out.1 B3.out
        clear hq x1 x3
        generalize ds[i]! = d at *
        cases hdi : d.is
        · rw [hdi] at x4
          have TN : Hid (apL l (ds.take (i + 1)) = dlL cur d.key) := by show _ = _; rw [TK.out]; unfold ap1; rw [if_neg (by rw [hdi]; simp)]
          have CD : Hid _ := rdel_any (.slice ao n c) cur d.key w3 R3.out HLC.out
          clear TK hdi
          generalize dlL cur d.key = nx at *
          go_wp2_with fail
          refine Calls.mono CD.out ?_
          rintro e w5 ⟨v5, rfl, o5, b5⟩
          have R5 : Hid (Row encP 2 w5 v5 nx) := o5.row
          have B5 : Hid (Below w.heap.size w w5) := B3.out.trans (b5.mono B3.out.size)
          clear o5 b5 CD x0 x2 x4 R3 B3
          obtain ⟨ao5, c5, rfl, h5⟩ := Row.shape R5.out
          clear h5
          generalize nx.length = n5 at *
          go_wp2
          go_roundg (ds.length - (i + 1))
          case measure => (have := HI2.out; omega)
          case rel => exact ⟨i + 1, ao5, n5, c5, nx, rfl, by simp [e1], (by have := HI2.out; omega), Nat.le_refl _, R5, TN.out.symm, B5⟩
        · rw [hdi] at x4
          have CM : Hid (∀ u, _) := fun u => may_any d.key d.new u
          cases hmy : mayB d.key d.new
          · have TN : Hid (apL l (ds.take (i + 1)) = cur) := by show _ = _; rw [TK.out]; unfold ap1; rw [if_pos hdi, if_neg (by rw [hmy]; simp)]
            rw [hmy] at CM
            clear TK hdi hmy
            go_wp2_with fail
            go_region_with (go_at_call 26; refine Calls.mono (CM.out _) ?_; rintro e w6 ⟨rfl, rfl⟩)
            all_goals
              (try go_wp2)
              go_roundg (ds.length - (i + 1))
              case measure => (have := HI2.out; omega)
              case rel => exact ⟨i + 1, ao, n, c, cur, rfl, by simp [e1], (by have := HI2.out; omega), Nat.le_refl _, Row.to R3.out (Below.refl _ _).drew (Nat.le_refl _), TN.out.symm, B3.out.drew⟩
          · have TN : Hid (apL l (ds.take (i + 1)) = ptL cur d.key d.new) := by show _ = _; rw [TK.out]; unfold ap1; rw [if_pos hdi, if_pos hmy]
            rw [hmy] at CM
            have CP : Hid _ := rput_any (.slice ao n c) cur d.key d.new w3.drew.drew (Row.to R3.out (Below.refl _ _).drew.drew (Nat.le_refl _)) HLC.out
            clear TK hdi hmy
            generalize ptL cur d.key d.new = nx at *
            go_wp2_with fail
            go_region_with (go_at_call 26; refine Calls.mono (CM.out _) ?_; rintro e w6 ⟨rfl, rfl⟩)
            all_goals
              go_wp2_with fail
              go_region_with (go_at_call 18; refine Calls.mono CP.out ?_; rintro e w5 ⟨v5, rfl, o5, b5⟩; have R5 : Hid (Row encP 2 w5 v5 nx) := o5.row; have B5 : Hid (Below w.heap.size w w5) := (B3.out.drew.drew).trans (b5.mono B3.out.size); clear o5 b5; obtain ⟨ao5, c5, rfl, h5⟩ := Row.shape R5.out; clear h5; generalize nx.length = n5 at *)
              all_goals
                (try go_wp2)
                go_roundg (ds.length - (i + 1))
                case measure => (have := HI2.out; omega)
                case rel => exact ⟨i + 1, ao5, n5, c5, nx, rfl, by simp [e1], (by have := HI2.out; omega), Nat.le_refl _, R5, TN.out.symm, B5⟩
      · have hilz : ¬ (i : Int) < (ds.length : Int) := by omega
        obtain rfl : i = ds.length := by omega
        have E9 : Hid (cur = apP l ds) := by show _ = _; rw [HC.out, List.take_length, E.out]
        clear HC hki hi E
        go_wp2
        go_ret
        rw [← E9.out]
        exact ⟨ao, n, c, rfl, HR.out, HBw.out⟩
  · have E : Hid (apP l ds = l) := by show _ = _; unfold apP; rw [if_neg hr]
    have hrf : rgB l = false := by simpa using hr
    have CR : Hid _ := rright_any (.slice ao l.length c) l w HL.out (by omega)
    rw [hrf] at CR
    clear hr hrf
    have HN2 : Hid (ds.length ≤ 10000) := hl2
    clear hl hl2
    generalize l.length = nl at *
    go_enter Tryz.func13, Tryz.ntmps13
    go_wp2
    rcases Nat.eq_zero_or_pos ds.length with z | z
    · have hz : ¬ (0 : Int) < (ds.length : Int) := by omega
      clear z HN2 CR
      go_loopg [0, 5] 0 (fun kx s0 s5 wr => s0 = .slice ao nl c ∧ s5 = .int .i64 0 ∧ Hid (wr = w))
      case atStart => exact ⟨rfl, rfl, rfl⟩
      case round =>
        obtain ⟨rfl, rfl, HW⟩ := hrel
        go_wp2
        go_ret
        rw [E.out]
        exact ⟨ao, nl, c, rfl, by rw [HW.out]; exact HL.out, by rw [HW.out]; exact Below.refl _ _⟩
    · have hz : (0 : Int) < (ds.length : Int) := by omega
      clear z HN2
      go_loopg [0, 5] 0 (fun kx s0 s5 wr => s0 = .slice ao nl c ∧ s5 = .int .i64 0 ∧ Hid (wr = w))
      case atStart => exact ⟨rfl, rfl, rfl⟩
      case round =>
        obtain ⟨rfl, rfl, HW⟩ := hrel
        have CR2 : Hid (Calls Tryz.prog 14 #[.slice ao nl c] wr fun e w' => e = .returned (.bool false) ∧ Below wr.heap.size wr w') := by show Calls _ _ _ _ _; rw [HW.out]; exact CR.out
        clear CR
        go_wp2_with fail
        refine Calls.mono CR2.out ?_
        rintro e w3 ⟨rfl, hb3⟩
        rw [HW.out] at hb3
        have hb4 : Hid (Below w.heap.size w w3) := hb3
        clear hb3 CR2
        go_wp2
        go_ret
        rw [E.out]
        exact ⟨ao, nl, c, rfl, Row.to HL.out hb4.out (Nat.le_refl _), hb4.out⟩

end Go.Proofs.YtljmkajpjjdnhaaGreatDoor.N

/-
  The walks of the document's Flush and Runs.
-/
import Derived.Test.YtnngfkjbbedkpaaGreatDoorAlRef7
namespace Go.Proofs.YtnngfkjbbedkpaaGreatDoor
open Go.Shelf Go.RowKit Go.Lib Go.Sort
set_option linter.unusedVariables false

section
variable {B : Nat} {w0 w : World} {a b c e f g h' : Res} {l : List Res}
theorem Sep.up6 (h : Sep B w0 w (a :: b :: c :: e :: f :: g :: h' :: l)) : Sep B w0 w (h' :: a :: b :: c :: e :: f :: g :: l) := (h.map fun _ h => Hp.under h fun _ h => Hp.under h fun _ h => Hp.under h fun _ h => Hp.under h fun _ h => Hp.under h fun _ => Hp.swap).up5
theorem Sep.dn6 (h : Sep B w0 w (h' :: a :: b :: c :: e :: f :: g :: l)) : Sep B w0 w (a :: b :: c :: e :: f :: g :: h' :: l) := h.dn5.map fun _ h => Hp.under h fun _ h => Hp.under h fun _ h => Hp.under h fun _ h => Hp.under h fun _ h => Hp.under h fun _ => Hp.swap
end

def nums (i k : Nat) : List Int := (List.range k).map fun j => ((i + j : Nat) : Int)
theorem nums_cons (i k : Nat) : nums i (k + 1) = (i : Int) :: nums (i + 1) k := by
  unfold nums
  rw [List.range_succ_eq_map, List.map_cons, List.map_map]
  congr 1
  apply List.map_congr_left
  intro j _
  simp only [Function.comp]
  congr 1
  omega
theorem mem_nums {i k : Nat} {q : Int} : q ∈ nums i k ↔ (i : Int) ≤ q ∧ q < ((i + k : Nat) : Int) := by
  unfold nums
  rw [List.mem_map]
  constructor
  · rintro ⟨j, hj, rfl⟩
    have := List.mem_range.1 hj
    omega
  · rintro ⟨a, b⟩
    exact ⟨(q - i).toNat, List.mem_range.2 (by omega), by omega⟩
theorem nums_rise : ∀ (k i : Nat), (nums i k).Pairwise (· < ·)
  | 0, i => List.Pairwise.nil
  | k + 1, i => by
    rw [nums_cons]
    refine List.pairwise_cons.2 ⟨fun q hq => ?_, nums_rise k (i + 1)⟩
    have := mem_nums.1 hq
    omega
theorem flush_skip (g : Fr) : ∀ (L : List Int) (d : Dk), flushL g L d = flushL g (L.filter fun k => (g k).isSome) d
  | [], d => rfl
  | id :: L, d => by
    cases hg : g id with
    | none =>
      have e : flush1 g d id = (0, d) := by unfold flush1; rw [hg]
      rw [flushL, e, if_pos rfl, List.filter_cons, hg]
      exact flush_skip g L d
    | some c =>
      rw [List.filter_cons, hg]
      show flushL g (id :: L) d = flushL g (id :: _) d
      rw [flushL, flushL]
      split
      · exact flush_skip g L _
      · rfl
theorem flush_all {x : TX} {room : Nat} (ok : x.Ok room) {L : List Int} (hL : KeysOf x.fresh L) (d : Dk) : flushL x.fresh L d = flushL x.fresh (nums 0 x.pages) d := by
  rw [flush_skip x.fresh (nums 0 x.pages) d]
  have : KeysOf x.fresh ((nums 0 x.pages).filter fun k => (x.fresh k).isSome) := by
    refine ⟨(nums_rise _ _).sublist List.filter_sublist, fun k => ?_⟩
    rw [List.mem_filter, mem_nums]
    constructor
    · exact fun h => h.2
    · intro h
      have := ok.fs k h
      exact ⟨by omega, h⟩
  rw [hL.unique this]

section
variable {B : Nat} {w0 w : World} {l : List Res} {r g c : Nat} {x : TX} {y : RX} {d : Dk}
set_option maxRecDepth 100000 in
set_option maxHeartbeats 4000000 in
theorem rflush (h : Sep B w0 w (RTx r g y :: RFile g c d :: l)) (hR : Rel x y) (ok : x.Ok d.room) (hm : d.room ≤ 16384) (hp : d.pend.length ≤ 50000) (hw : ∀ k c, x.fresh k = some c → c.body.size ≤ 240) : Calls Tryz.prog 20 #[ptr r] w fun e w' => e = .returned (.int .i64 (flushL x.fresh (nums 0 x.pages) d).1) ∧ Sep B w0 w' (RTx r g y :: RFile g c (flushL x.fresh (nums 0 x.pages) d).2 :: l) := by
  obtain ⟨R, hRR⟩ : ∃ R, flushL x.fresh (nums 0 x.pages) d = R := ⟨_, rfl⟩
  rw [hRR]
  have HR : Hid (flushL x.fresh (nums 0 x.pages) d = R) := hRR
  have hp2 := ok.p2
  have hpr := ok.pr
  obtain ⟨P, hP⟩ : ∃ P, x.pages = P := ⟨_, rfl⟩
  have LL := hR.len
  have HRel : Hid (Rel x y) := hR
  have HW : Hid (∀ k c, x.fresh k = some c → c.body.size ≤ 240) := hw
  have HP : Hid (x.pages = P) := hP
  have HS : Hid (Sep B w0 w (RTx r g y :: RFile g c d :: l)) := h
  rw [hP] at hp2 hpr LL HR
  clear h hR ok hw hRR hP
  go_enter Tryz.func20, Tryz.ntmps20
  go_wp2
  go_loopg [3] P (fun kx s3 wr => ∃ (i : Nat) (di : Dk), s3 = .int .i64 i ∧ i ≤ P ∧ P - i ≤ kx ∧ Hid (Sep B w0 wr (RTx r g y :: RFile g c di :: l)) ∧ Hid (flushL x.fresh (nums i (P - i)) di = R) ∧ Hid (di.pend.length ≤ d.pend.length + i))
  case atStart => exact ⟨0, d, rfl, Nat.zero_le _, Nat.le_refl _, HS, HR, Nat.le_refl _⟩
  case round =>
    obtain ⟨i, di, rfl, hi, hki, SR, FR, PR⟩ := hrel
    clear HS
    have l1 := LL.l1
    have l2 := LL.l2
    have l3 := LL.l3
    have l4 := LL.l4
    have l5 := LL.l5
    obtain ⟨v1, v2, v3, v4, v5, h0⟩ := SR.out.rtxOpen
    by_cases hil : i < P
    · have hilz : (i : Int) < (P : Int) := by omega
      have hip : i < x.pages := by rw [HP.out]; exact hil
      obtain ⟨q2, c2, e2, hq2, k2, _⟩ := brow_at (n := i) h0.up2 (by omega)
      obtain ⟨q3, c3, e3, hq3, k3, _⟩ := brow_at (n := i) h0.up3 (by omega)
      obtain ⟨q4, c4, e4, hq4, k4, _⟩ := krow_at (n := i) h0.up4 (by omega)
      obtain ⟨q5, c5, e5, hq5, k5, _⟩ := srow_at (n := i) h0.up5 (by omega)
      subst e2 e3 e4 e5
      rw [l2, l3, l4, l5] at h0
      obtain ⟨hr0, m0, m1, m2, m3, m4, m5, _⟩ := rtx_cells h0
      have F2 := HRel.out.fs i hip
      have F3 := HRel.out.hs i hip
      have F4 := HRel.out.kd i hip
      have hpp := PR.out
      have FT := flush1_turn x.fresh di (i : Int)
      have EN : nums i (P - i) = (i : Int) :: nums (i + 1) (P - (i + 1)) := by rw [show P - i = (P - (i + 1)) + 1 by omega, nums_cons]
      have FR1 := FR.out
      rw [EN, flushL] at FR1
      cases hbs : bAt y.fresh i with
      | false =>
        rw [hbs] at k2 F2
        have hn : x.fresh (i : Int) = none := by cases hh : x.fresh (i : Int) with
          | none => rfl
          | some c => rw [hh] at F2; cases F2
        have FR2 : Hid (flushL x.fresh (nums (i + 1) (P - (i + 1))) di = R) := by
          have e : flush1 x.fresh di (i : Int) = (0, di) := by unfold flush1; rw [hn]
          rw [e, if_pos rfl] at FR1
          exact FR1
        clear FR FR1 FT F2 F3 F4 hn h0 EN
        go_wp2
        go_roundg (P - (i + 1))
        case measure => omega
        case rel => exact ⟨i + 1, di, by go_num, by omega, Nat.le_refl _, SR, FR2, Nat.le_succ_of_le hpp⟩
      | true =>
        rw [hbs] at k2 F2
        obtain ⟨cc, hcc⟩ := Option.isSome_iff_exists.1 F2.symm
        have hsz := HW.out _ _ hcc
        rw [hcc] at F3 F4
        simp only [Option.getD_some] at F3 F4
        have F1e : flush1 x.fresh di (i : Int) = if cc.there = true then di.wr (i : Int) cc.kind cc.body else (0, di) := by unfold flush1; rw [hcc]
        obtain ⟨ct, ck, cs⟩ := cc
        simp only at F3 F4 F1e hsz
        rw [F3] at k3
        cases ct with
        | false =>
          have FR2 : Hid (flushL x.fresh (nums (i + 1) (P - (i + 1))) di = R) := by
            simp only [Bool.false_eq_true, if_false] at F1e
            rw [F1e, if_pos rfl] at FR1
            exact FR1
          clear FR FR1 FT F2 F3 F4 hcc h0 EN F1e
          go_wp2
          go_roundg (P - (i + 1))
          case measure => omega
          case rel => exact ⟨i + 1, di, by go_num, by omega, Nat.le_refl _, SR, FR2, Nat.le_succ_of_le hpp⟩
        | true =>
          obtain ⟨G1, G2⟩ := F4 rfl
          rw [G1] at k4
          rw [G2] at k5
          rw [if_pos rfl] at F1e
          rw [F1e] at FR1 FT
          have SD : Hid (Sep B w0 wr.drew (rL r g v1 (.slice (some ⟨q2, 0, none⟩) P c2) (.slice (some ⟨q3, 0, none⟩) P c3) (.slice (some ⟨q4, 0, none⟩) P c4) (.slice (some ⟨q5, 0, none⟩) P c5) y (RFile g c di :: l))) := h0.drew
          have CP : Hid _ := put_rf (Sep.up6 SD.out) (i : Int) ck cs (by omega) (Nat.le_trans hsz (by decide)) (by omega)
          obtain ⟨⟨er, d2⟩, hrd⟩ : ∃ z, di.wr (i : Int) ck cs = z := ⟨_, rfl⟩
          rw [hrd] at FR1 FT CP
          simp only at FR1 FT CP
          have FRH : Hid _ := FR1
          have PR2 : Hid (d2.pend.length ≤ d.pend.length + (i + 1)) := by have := FT.2; show _ ≤ _; omega
          have HSS : Hid (∀ u dx, Sep B w0 u (rL r g v1 (.slice (some ⟨q2, 0, none⟩) P c2) (.slice (some ⟨q3, 0, none⟩) P c3) (.slice (some ⟨q4, 0, none⟩) P c4) (.slice (some ⟨q5, 0, none⟩) P c5) y (RFile g c dx :: l)) → u.cell? ⟨r, 0, none⟩ = some (ptr g) ∧ u.cell? ⟨r, 4, none⟩ = some (.slice (some ⟨q4, 0, none⟩) P c4) ∧ u.cell? ⟨r, 5, none⟩ = some (.slice (some ⟨q5, 0, none⟩) P c5) ∧ u.cell? ⟨q4, i, none⟩ = some (.int .u8 (ck.toNat : Int)) ∧ u.cell? ⟨q5, i, none⟩ = some (.string cs)) := fun u dx hu => by
            obtain ⟨_, z0, _, _, _, z4, z5, _⟩ := rtx_cells hu
            obtain ⟨_, _, e4, _, z6, _⟩ := krow_at (n := i) (Sep.up4 hu) (by omega)
            obtain ⟨_, _, e5, _, z7, _⟩ := srow_at (n := i) (Sep.up5 hu) (by omega)
            rw [l4] at e4
            rw [l5] at e5
            cases e4
            cases e5
            rw [G1] at z6
            rw [G2] at z7
            exact ⟨z0, z4, z5, z6, z7⟩
          have k9 := HSS.out _ _ SD.out
          clear FR FR1 FT F1e hrd F2 F3 F4 hcc h0 EN G1 G2
          by_cases he : er = 0
          · subst he
            have FR2 : Hid (flushL x.fresh (nums (i + 1) (P - (i + 1))) d2 = R) := by have := FRH.out; rw [if_pos rfl] at this; exact this
            clear FRH
            go_wp2_with fail
            first | go_region_held3 (fun w' => w'.cell? ⟨r, 0, none⟩ = some (ptr g) ∧ w'.cell? ⟨r, 4, none⟩ = some (.slice (some ⟨q4, 0, none⟩) P c4) ∧ w'.cell? ⟨r, 5, none⟩ = some (.slice (some ⟨q5, 0, none⟩) P c5) ∧ w'.cell? ⟨q4, i, none⟩ = some (.int .u8 (ck.toNat : Int)) ∧ w'.cell? ⟨q5, i, none⟩ = some (.string cs)) (first | assumption | exact k9) ((go_at_call 51; refine Calls.mono CP.out ?_; rintro e w4 ⟨rfl, s4⟩; have s5 : Sep B w0 w4 (rL r g v1 (.slice (some ⟨q2, 0, none⟩) P c2) (.slice (some ⟨q3, 0, none⟩) P c3) (.slice (some ⟨q4, 0, none⟩) P c4) (.slice (some ⟨q5, 0, none⟩) P c5) y (RFile g c d2 :: l)) := Sep.dn6 s4; have hS5 := HSS.out _ _ s5; have S5 : Hid (Sep B w0 w4 (RTx r g y :: RFile g c d2 :: l)) := Sep.rtxShut s5; clear s4 s5)) | fail
            clear CP SD HSS k9
            go_wp2
            go_roundg (P - (i + 1))
            case measure => omega
            case rel => exact ⟨i + 1, d2, by go_num, by omega, Nat.le_refl _, S5, FR2, PR2⟩
          · have heb : (er == 0) = false := beq_eq_false_iff_ne.2 he
            have FR2 : (er, d2) = R := by have := FRH.out; rw [if_neg he] at this; exact this
            subst FR2
            clear FRH
            go_wp2_with fail
            first | go_region_held3 (fun w' => w'.cell? ⟨r, 0, none⟩ = some (ptr g) ∧ w'.cell? ⟨r, 4, none⟩ = some (.slice (some ⟨q4, 0, none⟩) P c4) ∧ w'.cell? ⟨r, 5, none⟩ = some (.slice (some ⟨q5, 0, none⟩) P c5) ∧ w'.cell? ⟨q4, i, none⟩ = some (.int .u8 (ck.toNat : Int)) ∧ w'.cell? ⟨q5, i, none⟩ = some (.string cs)) (first | assumption | exact k9) ((go_at_call 51; refine Calls.mono CP.out ?_; rintro e w4 ⟨rfl, s4⟩; have s5 : Sep B w0 w4 (rL r g v1 (.slice (some ⟨q2, 0, none⟩) P c2) (.slice (some ⟨q3, 0, none⟩) P c3) (.slice (some ⟨q4, 0, none⟩) P c4) (.slice (some ⟨q5, 0, none⟩) P c5) y (RFile g c d2 :: l)) := Sep.dn6 s4; have hS5 := HSS.out _ _ s5; have S5 : Hid (Sep B w0 w4 (RTx r g y :: RFile g c d2 :: l)) := Sep.rtxShut s5; clear s4 s5)) | fail
            clear CP SD HSS k9
            go_wp2
            go_ret
            exact ⟨rfl, S5.out⟩
    · have hilz : ¬ (i : Int) < (P : Int) := by omega
      obtain rfl : i = P := by omega
      have FR2 : Hid (di.sync = R) := by have := FR.out; rw [show i - i = 0 by omega] at this; exact this
      have hpp := PR.out
      obtain ⟨q2, c2, e2, hq2, _, _⟩ := brow_at (n := 0) h0.up2 (by omega)
      subst e2
      rw [l2] at h0
      obtain ⟨hr0, m0, m1, m2, m3, m4, m5, _⟩ := rtx_cells h0
      obtain ⟨z0, hz0⟩ := SR.out.up1.rcell
      have CS : Hid _ := sync_rf SR.out.up1 (by omega)
      rw [FR2.out] at CS
      clear h0 FR PR
      go_wp2_with fail
      refine Calls.mono CS.out ?_
      rintro e w4 ⟨rfl, s4⟩
      have S4 : Hid (Sep B w0 w4 (RTx r g y :: RFile g c R.2 :: l)) := s4.up1
      clear CS s4
      go_wp2
      go_ret
      exact ⟨rfl, S4.out⟩
end

end Go.Proofs.YtnngfkjbbedkpaaGreatDoor

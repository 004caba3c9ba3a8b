/-
  The walk of the document's Get.
-/
import Derived.Test.YtnngfkjbbedkpaaGreatDoorAlRef6
namespace Go.Proofs.YtnngfkjbbedkpaaGreatDoor
open Go.Shelf Go.RowKit Go.Lib Go.Sort
set_option linter.unusedVariables false

theorem rd_err {d : Dk} {id : Int} (h : hasP d id = true) (k : UInt8) : (d.rd id k).1.2 ≠ 40 := by
  have hh := of_decide_eq_true h
  unfold Dk.rd
  rw [h, if_pos rfl]
  simp only
  by_cases h0 : (d.get id).1.2 = 0
  · rw [if_pos h0]
    unfold openE
    split
    · show (0 : Int) ≠ 40; decide
    · show (3 : Int) ≠ 40; decide
  · rw [if_neg h0]
    show (d.get id).1.2 ≠ 40
    unfold Dk.get
    split
    · show (4 : Int) ≠ 40; decide
    · rw [if_pos (by unfold Dk.has; exact decide_eq_true ⟨by omega, hh.2⟩)]
      show (0 : Int) ≠ 40; decide
theorem corr_id {d : Dk} {id : Int} (h : hasP d id = true) (k : UInt8) : corr (d.rd id k) = d.rd id k := by
  unfold corr
  rw [if_neg (rd_err h k)]

section
variable {B : Nat} {w0 w : World} {l : List Res} {r g c : Nat} {x : TX} {y : RX} {d : Dk}
set_option maxRecDepth 100000 in
set_option maxHeartbeats 4000000 in
theorem rget (h : Sep B w0 w (RTx r g y :: RFile g c d :: l)) (hR : Rel x y) (ok : x.Ok d.room) (hm : d.room ≤ 16384) (hp : d.pend.length < 100000) {id : Int} (hw : Wf id) (kind : UInt8) : Calls Tryz.prog 18 #[ptr r, .int .i64 id, .int .u8 (kind.toNat : Int)] w fun e w' => e = .returned (.tuple #[.string (x.get d id kind).1.1, .int .i64 (x.get d id kind).1.2]) ∧ Sep B w0 w' (RTx r g y :: RFile g c (x.get d id kind).2 :: l) := by
  have hp2 := ok.p2
  have hpr := ok.pr
  have l1 := hR.len.l1
  have l2 := hR.len.l2
  have l3 := hR.len.l3
  have l4 := hR.len.l4
  have l5 := hR.len.l5
  obtain ⟨v1, v2, v3, v4, v5, h0⟩ := h.rtxOpen
  obtain ⟨q1, c1, e1, hq1, _, _⟩ := brow_at (n := 0) h0.up1 (by omega)
  subst e1
  rw [l1] at h0
  obtain ⟨hr0, m0, m1, m2, m3, m4, m5, mf⟩ := rtx_cells h0
  have HS : Hid (Sep B w0 w (RTx r g y :: RFile g c d :: l)) := h
  by_cases hi2 : id < 2
  · have E : x.get d id kind = ((ByteArray.empty, 3), d) := by
      unfold TX.get
      have hn : x.fresh id = none := by cases hh : x.fresh id with
        | none => rfl
        | some c => have := ok.fs id (by rw [hh]; rfl); omega
      rw [hn]
      have hnp : ¬ ((x.pages : Int) ≤ id ∨ hasB x.free id = true) := by
        rintro (a | a)
        · omega
        · have := ok.fr id ((hasB_iff _ _).1 a); omega
      simp only [if_neg hnp]
      have hpf : hasP d id = false := decide_eq_false (by omega)
      unfold corr Dk.rd
      rw [hpf]
      rfl
    rw [E]
    clear h h0 hR E ok
    go_enter Tryz.func18, Tryz.ntmps18
    go_wp2
    go_ret2
    exact ⟨rfl, HS.out⟩
  · have hi2z : ¬ id < 2 := hi2
    by_cases hpg : (x.pages : Int) ≤ id
    · have E : x.get d id kind = ((ByteArray.empty, 3), d) := by
        unfold TX.get
        have hn : x.fresh id = none := by cases hh : x.fresh id with
          | none => rfl
          | some c => have := ok.fs id (by rw [hh]; rfl); omega
        rw [hn]
        simp only [hpg, true_or, if_true]
      rw [E]
      generalize x.pages = P at *
      clear h h0 hR E ok
      go_enter Tryz.func18, Tryz.ntmps18
      go_wp2
      go_ret2
      exact ⟨rfl, HS.out⟩
    · obtain ⟨n, rfl⟩ : ∃ n : Nat, id = (n : Int) := ⟨id.toNat, by omega⟩
      have hnp : n < x.pages := by omega
      have F1 := hR.fr n hnp
      have F2 := hR.fs n hnp
      have F3 := hR.hs n hnp
      have F4 := hR.kd n hnp
      obtain ⟨q1', c1', e1', _, k1, _⟩ := brow_at (n := n) h0.up1 (by omega)
      rw [l1] at e1'
      cases e1'
      obtain ⟨q2, c2, e2, _, k2, _⟩ := brow_at (n := n) h0.up2 (by omega)
      obtain ⟨q3, c3, e3, _, k3, _⟩ := brow_at (n := n) h0.up3 (by omega)
      obtain ⟨q4, c4, e4, _, k4, _⟩ := krow_at (n := n) h0.up4 (by omega)
      obtain ⟨q5, c5, e5, _, k5, _⟩ := srow_at (n := n) h0.up5 (by omega)
      subst e2 e3 e4 e5
      rw [l2, l3, l4, l5] at h0
      obtain ⟨_, _, _, m2, m3, m4, m5, _⟩ := rtx_cells h0
      have hnz : (n : Int) < (x.pages : Int) := by omega
      cases hbf : bAt y.free n with
      | true =>
        rw [hbf] at k1 F1
        have E : x.get d (n : Int) kind = ((ByteArray.empty, 3), d) := by
          unfold TX.get
          have hn : x.fresh (n : Int) = none := by
            have := ok.dj n ((hasB_iff _ _).1 F1.symm)
            cases hh : x.fresh (n : Int) with
            | none => rfl
            | some c => rw [hh] at this; cases this
          rw [hn]
          simp only [← F1, or_true, if_true]
        rw [E]
        generalize x.pages = P at *
        clear h h0 hR E ok F1 F2 F3 F4
        go_enter Tryz.func18, Tryz.ntmps18
        go_wp2
        go_ret2
        exact ⟨rfl, HS.out⟩
      | false =>
        rw [hbf] at k1 F1
        cases hbs : bAt y.fresh n with
        | true =>
          rw [hbs] at k2 F2
          obtain ⟨cc, hcc⟩ := Option.isSome_iff_exists.1 F2.symm
          rw [hcc] at F3 F4
          simp only [Option.getD_some] at F3 F4
          obtain ⟨ct, ck, cs⟩ := cc
          simp only at F3 F4
          have E0 : x.get d (n : Int) kind = if ct = true ∧ ck = kind then ((cs, 0), d) else ((ByteArray.empty, 3), d) := by unfold TX.get; rw [hcc]
          rw [F3] at k3
          rw [E0]
          cases ct with
          | false =>
            simp only [Bool.false_eq_true, false_and, if_false]
            generalize x.pages = P at *
            clear h h0 hR E0 ok F1 F2 F3 F4 hcc
            go_enter Tryz.func18, Tryz.ntmps18
            go_wp2
            go_ret2
            exact ⟨rfl, HS.out⟩
          | true =>
            obtain ⟨G1, G2⟩ := F4 rfl
            rw [G1] at k4
            rw [G2] at k5
            by_cases hkk : ck = kind
            · subst hkk
              simp only [and_self, if_true]
              generalize x.pages = P at *
              clear h h0 hR E0 ok F1 F2 F3 F4 hcc G1 G2
              go_enter Tryz.func18, Tryz.ntmps18
              go_wp2
              go_ret2
              exact ⟨rfl, HS.out⟩
            · simp only [hkk, and_false, if_false]
              have hne : ((ck.toNat : Int) == (kind.toNat : Int)) = false := beq_eq_false_iff_ne.2 (fun e => hkk (UInt8.toNat_inj.1 (by omega)))
              generalize (ck.toNat : Int) = ckz at *
              generalize (kind.toNat : Int) = kz at *
              generalize x.pages = P at *
              clear h h0 hR E0 ok F1 F2 F3 F4 hcc G1 G2
              go_enter Tryz.func18, Tryz.ntmps18
              go_wp2
              go_ret2
              exact ⟨rfl, HS.out⟩
        | false =>
          rw [hbs] at k2 F2
          have hn : x.fresh (n : Int) = none := by cases hh : x.fresh (n : Int) with
            | none => rfl
            | some c => rw [hh] at F2; cases F2
          have hpf : hasP d (n : Int) = true := decide_eq_true ⟨by omega, by unfold Dk.room at hpr; omega⟩
          have E : x.get d (n : Int) kind = d.rd (n : Int) kind := by
            unfold TX.get
            rw [hn]
            have : ¬ ((x.pages : Int) ≤ (n : Int) ∨ hasB x.free (n : Int) = true) := by
              rintro (a | a)
              · omega
              · rw [← F1] at a; cases a
            simp only [if_neg this]
            exact corr_id hpf kind
          rw [E]
          have CR : Hid _ := read_rf HS.out.up1 (n : Int) kind hw.2 hp
          generalize (d.rd (n : Int) kind).1.1 = rs at *
          generalize (d.rd (n : Int) kind).1.2 = re at *
          generalize (d.rd (n : Int) kind).2 = d2 at *
          generalize x.pages = P at *
          clear h h0 hR E ok F1 F2 F3 F4 hn hpf
          go_enter Tryz.func18, Tryz.ntmps18
          go_wp2_with fail
          refine Calls.mono CR.out ?_
          rintro e w3 ⟨rfl, s3⟩
          have S3 : Hid (Sep B w0 w3 (RTx r g y :: RFile g c d2 :: l)) := s3.up1
          clear CR s3
          go_wp2
          go_ret2
          exact ⟨rfl, S3.out⟩
end

end Go.Proofs.YtnngfkjbbedkpaaGreatDoor

/-
  The walks of the document's Alloc, Drop, Put.
-/
import Derived.Test.YtnngfkjbbedkpaaGreatDoorAlRel
namespace Go.Proofs.YtnngfkjbbedkpaaGreatDoor
open Go.Shelf Go.RowKit Go.Lib Go.Sort
set_option linter.unusedVariables false

section
variable {B : Nat} {w0 w : World} {l : List Res} {r g c : Nat} {x : TX} {y : RX} {d : Dk}

/-- A truth value of a row that is not empty: where it lies, what it is. -/
theorem brow_at {tl : List Bool} {v : Value} {n : Nat} (h : Sep B w0 w (RowR 4 v (tl.map Value.bool) :: l)) (hn : n < tl.length) : ∃ q cp, v = .slice (some ⟨q, 0, none⟩) tl.length cp ∧ q < w.heap.size ∧ w.cell? ⟨q, n, none⟩ = some (.bool (bAt tl n)) ∧ w.frozen? ⟨q, n, none⟩ = false := by
  obtain ⟨r2, c2, e2, _, hr2, hcx, hfx⟩ := h.cell (j := n) (by simpa using hn)
  rw [List.length_map] at e2
  subst e2
  obtain ⟨k1, k2⟩ := Sep.bool_at (tl := tl) (i := n) h hn
  exact ⟨r2, c2, rfl, hr2, k1, k2⟩

def rList (r g : Nat) (v1 v2 v3 v4 v5 : Value) (f1 f2 f3 : List Bool) (k : List UInt8) (b : List ByteArray) (l : List Res) : List Res := rL r g v1 v2 v3 v4 v5 ⟨f1, f2, f3, k, b⟩ l

set_option maxRecDepth 100000 in
set_option maxHeartbeats 4000000 in
theorem ralloc (h : Sep B w0 w (RTx r g y :: RFile g c d :: l)) (hR : Rel x y) (ok : x.Ok d.room) (hm : d.room ≤ 16384) : Calls Tryz.prog 12 #[ptr r] w fun e w' => e = .returned (.tuple #[.int .i64 (x.alloc d.room).1.1, .int .i64 (x.alloc d.room).1.2]) ∧ ∃ y', Rel (x.alloc d.room).2 y' ∧ Sep B w0 w' (RTx r g y' :: RFile g c d :: l) := by
  obtain ⟨⟨⟨rid, rer⟩, x2⟩, hAR⟩ : ∃ R, x.alloc d.room = R := ⟨_, rfl⟩
  rw [hAR]
  simp only
  have HAR : Hid (x.alloc d.room = ((rid, rer), x2)) := hAR
  have hp2 := ok.p2
  have hpr := ok.pr
  obtain ⟨P, hP⟩ : ∃ P, x.pages = P := ⟨_, rfl⟩
  have L := hR.len
  rw [hP] at hp2 hpr L
  have l1 := L.l1
  have l2 := L.l2
  have HS : Hid (Sep B w0 w (RTx r g y :: RFile g c d :: l)) := h
  have HR : Hid (Rel x y) := hR
  have OK : Hid (x.Ok d.room) := ok
  have HP : Hid (x.pages = P) := hP
  obtain ⟨v1, v2, v3, v4, v5, ho⟩ := h.rtxOpen
  obtain ⟨q, cp, e1, hq, _, _⟩ := brow_at (n := 0) ho.up1 (by omega)
  have hcells := rtx_cells ho
  obtain ⟨hr, q0, q1, q2, q3, q4, q5, qf⟩ := hcells
  subst e1
  rw [l1] at q1
  clear h ho hR ok hP L hAR
  go_enter Tryz.func12, Tryz.ntmps12
  go_wp2
  go_loopg [4] P (fun kx s4 wr => ∃ (i : Nat), s4 = .int .i64 i ∧ 2 ≤ i ∧ i ≤ P ∧ P - i ≤ kx ∧ Hid (∀ j, 2 ≤ j → j < i → bAt y.free j = false) ∧ Hid (Sep B w0 wr (RTx r g y :: RFile g c d :: l)))
  case atStart => exact ⟨2, rfl, Nat.le_refl _, hp2, by omega, fun j a b => by omega, HS⟩
  case round =>
    obtain ⟨i, rfl, hi2, hi, hki, HF, SR⟩ := hrel
    clear HS hr q0 q1 q2 q3 q4 q5 qf hq
    obtain ⟨v1, v2, v3, v4, v5, ho⟩ := SR.out.rtxOpen
    obtain ⟨hr, q0, q1, q2, q3, q4, q5, qf⟩ := rtx_cells ho
    by_cases hil : i < P
    · have hilz : (i : Int) < (P : Int) := by omega
      obtain ⟨qa, ca, e1, hqa, ka, fa⟩ := brow_at (n := i) ho.up1 (by omega)
      obtain ⟨qb, cb, e2, hqb, kb, fb⟩ := brow_at (n := i) ho.up2 (by omega)
      subst e1 e2
      rw [l1] at q1
      rw [l2] at q2
      cases hbf : bAt y.free i with
      | true =>
        obtain ⟨A1, A2⟩ := HR.out.take OK.out (by rw [HP.out]; exact hil) hbf HF.out
        rw [hbf] at ka
        rw [HAR.out] at A1 A2
        simp only [Prod.mk.injEq] at A1
        obtain ⟨rfl, rfl⟩ := A1
        have A3 : Hid (Rel x2 ⟨y.free.set i false, y.fresh.set i true, y.has, y.kind, y.body⟩) := A2
        have t1 := Sep.bool_set (s := false) ho.up1 (i := i) (by omega) rfl
        obtain ⟨hr', p0, p1, p2, p3, p4, p5, pf⟩ := rtx_cells t1.up1
        obtain ⟨qc, cc, e3, hqc, kc, fc⟩ := brow_at (n := i) t1.up2 (by omega)
        cases e3
        have t2 := Sep.bool_set (s := true) t1.up2 (i := i) (by omega) rfl
        have S3 : Hid _ := Sep.rtxShut (y := ⟨y.free.set i false, y.fresh.set i true, y.has, y.kind, y.body⟩) (t2.dn2.up1 : Sep B w0 _ (rL r g _ _ _ _ _ ⟨y.free.set i false, y.fresh.set i true, y.has, y.kind, y.body⟩ (RFile g c d :: l)))
        rw [l1] at p1
        rw [l2] at p2
        clear t1 t2 ho SR HF A2
        go_wp2
        go_ret2
        exact ⟨rfl, _, A3.out, S3.out⟩
      | false =>
        rw [hbf] at ka
        have HF2 : Hid (∀ j, 2 ≤ j → j < i + 1 → bAt y.free j = false) := fun j a b => by
          rcases Nat.lt_or_ge j i with hj | hj
          · exact HF.out j a hj
          · rw [show j = i by omega]; exact hbf
        clear ho
        go_wp2
        go_roundg (P - (i + 1))
        case measure => omega
        case rel => exact ⟨i + 1, by go_num, by omega, by omega, Nat.le_refl _, HF2, SR⟩
    · have hilz : ¬ (i : Int) < (P : Int) := by omega
      obtain rfl : i = P := by omega
      have hnf := HR.out.nofree OK.out (by rw [HP.out]; exact HF.out)
      obtain ⟨qa, ca, e1, hqa, _, _⟩ := brow_at (n := 0) ho.up1 (by omega)
      subst e1
      rw [l1] at q1
      have SD : Hid (Sep B w0 wr.drew (RTx r g y :: RFile g c d :: l)) := SR.out.drew
      have CR : Hid _ := rroom SD.out
      clear ho
      by_cases hrm : d.room ≤ i
      · have hrz : (d.room : Int) ≤ (i : Int) := by omega
        obtain ⟨A1, A2⟩ := HR.out.full hnf (by rw [HP.out]; exact hrm)
        rw [HAR.out] at A1 A2
        simp only [Prod.mk.injEq] at A1 A2
        obtain ⟨rfl, rfl⟩ := A1
        subst A2
        generalize (d.room : Int) = rz at *
        go_wp2_with fail
        first | go_region_held3 (fun w' => w'.cell? ⟨r, 1, none⟩ = some (.slice (some ⟨qa, 0, none⟩) i ca)) (first | assumption | exact q1) ((go_at_call 42; refine Calls.mono CR.out ?_; rintro e wy ⟨rfl, rfl⟩)) | fail
        clear CR
        go_wp2
        go_ret2
        exact ⟨rfl, y, HR.out, SD.out⟩
      · have hrz : ¬ (d.room : Int) ≤ (i : Int) := by omega
        obtain ⟨A1, A2⟩ := HR.out.behind OK.out hnf (by rw [HP.out]; exact hrm)
        rw [HP.out, HAR.out] at A1
        rw [HAR.out, HP.out] at A2
        simp only [Prod.mk.injEq] at A1 A2
        obtain ⟨rfl, rfl⟩ := A1
        have A3 : Hid (Rel x2 _) := A2
        have LG : (y.grow false).Len (i + 1) := by have := HR.out.len.grow false; rw [HP.out] at this; exact this
        have CG : Hid _ := rgrow SD.out false (HP.out ▸ HR.out.len) (by omega)
        generalize (d.room : Int) = rz at *
        generalize y.grow false = y2 at *
        have lg1 := LG.l1
        have lg2 := LG.l2
        have hwz : wrap64 ((i : Int) + 1 - 1) = (i : Int) := by rw [w64 (by omega) (by omega)]; omega
        have hnz : ((i + 1 : Nat) : Int) = (i : Int) + 1 := by omega
        clear A2
        go_wp2_with fail
        first | go_region_held3 (fun w' => w'.cell? ⟨r, 1, none⟩ = some (.slice (some ⟨qa, 0, none⟩) i ca)) (first | assumption | exact q1) ((go_at_call 42; refine Calls.mono CR.out ?_; rintro e wy ⟨rfl, rfl⟩)) | fail
        clear CR
        go_wp2_with fail
        refine Calls.mono CG.out ?_
        rintro e w4 ⟨rfl, s4⟩
        obtain ⟨u1, u2, u3, u4, u5, h4⟩ := s4.rtxOpen
        obtain ⟨hr4, m0, m1, m2, m3, m4, m5, mf⟩ := rtx_cells h4
        obtain ⟨qd, cd, e4, hqd, kd, fd⟩ := brow_at (n := i) h4.up2 (by omega)
        obtain ⟨qe, ce, e5, hqe, _, _⟩ := brow_at (n := 0) h4.up1 (by omega)
        subst e4 e5
        have t2 := Sep.bool_set (s := true) h4.up2 (i := i) (by omega) rfl
        have S3 : Hid _ := Sep.rtxShut (y := ⟨y2.free, y2.fresh.set i true, y2.has, y2.kind, y2.body⟩) (t2.dn2 : Sep B w0 _ (rL r g _ _ _ _ _ ⟨y2.free, y2.fresh.set i true, y2.has, y2.kind, y2.body⟩ (RFile g c d :: l)))
        rw [lg1] at m1
        rw [lg2] at m2
        clear CG s4 h4 t2 SR SD q0 q1 q2 q3 q4 q5 qf hqa hr
        go_wp2
        go_ret2
        exact ⟨rfl, _, A3.out, S3.out⟩
end

end Go.Proofs.YtnngfkjbbedkpaaGreatDoor

/-
  The reference's Sync and New.
-/
import Derived.Test.YtkbakmgjplhjiaaDoorRefMem
import Derived.Deep.RegionLaw
namespace Go.Proofs.YtkbakmgjplhjiaaDoor
open Go.RowKit
set_option linter.unusedVariables false
section
variable {w w' : World} {b : Nat} {sv wv : Value} {d : Dk}

theorem RMem.clear (h : RMem w b sv wv d) : RMem (w.setCell ⟨b, 1, none⟩ (.slice none 0 0)) b sv (.slice none 0 0) { d with pend := [] } := by
  refine ⟨?_, ownsRow_kept' h.row (fun k hk => Below.heap_setCell _ _ _ _ (fun e => h.sb (by rw [hk]; exact congrArg some e))), World.ownsRow_nil _ _ _ _, ⟨h.ok.len, h.ok.sz, (fun p hp => by cases hp), h.ok.brk⟩, h.sb, by simp [Value.ownBlock], fun k _ => by simp [Value.ownBlock]⟩
  rw [heap_setCell_same _ b 1 _ _ _ h.blk]
  rfl

set_option maxHeartbeats 4000000 in
set_option maxRecDepth 100000 in
theorem sync_r (h : RMem w b sv wv d) (hd : d.down = false) (hl : d.pend.length < 100000) :
    Calls Tryd.prog 16 #[ptr b] w fun e w' => e = .returned (.int .i64 0) ∧ Turn (fun k => k = b ∨ sv.ownBlock = some k) w w' ∧ RMem w' b sv (.slice none 0 0) d.sync.2 := by
  have H : Hid (RMem w b sv wv d) := h
  have c2 := h.c2
  rw [hd] at c2
  have lt := h.bl
  obtain ⟨aw, cw, ew⟩ := h.wv_slice
  have EW : Hid (wv = .slice aw d.pend.length cw) := ew
  clear h ew
  go_enter Tryd.func16, Tryd.ntmps16
  go_wp2
  go_loopg [3] d.pend.length (fun gk s3 wr => ∃ k : Nat, s3 = .int .i64 k ∧ k ≤ d.pend.length ∧ d.pend.length - k ≤ gk ∧ Aside (RMem wr b sv wv (d.at (syncTo d.pend d.sure k))) ∧ Hid (Turn (fun k => k = b ∨ sv.ownBlock = some k) w wr))
  case atStart => exact ⟨0, rfl, Nat.zero_le _, Nat.le_refl _, H.out, Turn.refl _ _⟩
  case round =>
    obtain ⟨k, rfl, hk, hgk, HM, HT⟩ := hrel
    have hM := HM.out
    have c0 := hM.c0; have c1 := hM.c1; have ltr := hM.bl; have f1 := hM.fz 1
    rw [EW.out] at c1
    by_cases hkl : k < d.pend.length
    · have hklz : (k : Int) < (d.pend.length : Int) := by omega
      have hw := wAt_ok H.out.ok hkl
      have hlen : (d.at (syncTo d.pend d.sure k)).sure.length = d.sure.length := syncTo_length _ _ _
      have hsl := H.out.ok.len
      obtain ⟨q, c', e1, x0, x1, hq⟩ := hM.wcell (k := k) hkl
      obtain ⟨rfl, rfl⟩ : aw = some ⟨q, 0, none⟩ ∧ cw = c' := by have e2 := EW.out.symm.trans e1; simp [Dk.at] at e2; exact e2
      obtain ⟨r, cs, es, y0, yf, hr⟩ := hM.scell (i := (wAt d.pend k).1) (by rw [hlen]; exact hw.1)
      have x0' : wr.cell? ⟨q, k * 2, none⟩ = some (.int .i64 (wAt d.pend k).1) := x0
      have x1' : wr.cell? ⟨q, k * 2 + 1, none⟩ = some (.string (wAt d.pend k).2) := x1
      have SS : Hid (syncTo d.pend d.sure (k + 1) = (syncTo d.pend d.sure k).set (wAt d.pend k).1 (wAt d.pend k).2) := syncTo_succ _ _ _
      generalize wAt d.pend k = p at *
      obtain ⟨pi, ps⟩ := p
      simp only at hw x0' x1' y0 yf SS
      rw [hlen] at es
      subst es
      have hpz : (pi : Int) < (d.sure.length : Int) := by omega
      have M3 : Hid (RMem (wr.setCell ⟨r, pi, none⟩ (.string ps)) b (.slice (some ⟨r, 0, none⟩) d.sure.length cs) wv (d.at (syncTo d.pend d.sure (k + 1)))) := by
        show RMem _ _ _ _ _
        rw [SS.out]
        have hM' := hM
        rw [← hlen] at hM'
        have := hM'.setS pi (by rw [hlen]; exact hw.1) ps hw.2
        rw [hlen] at this
        exact this
      generalize sAt (d.at (syncTo d.pend d.sure k)).sure pi = old at y0
      clear x0 x1 hM e1 hlen
      go_wp2
      go_region
      go_wp2
      go_roundg (d.pend.length - (k + 1))
      case measure => omega
      case rel => exact ⟨k + 1, by go_num, by omega, Nat.le_refl _, M3.out.drew, (HT.out.trans (Turn.setCell (X := fun k => k = r) _ rfl _) (fun k hk => .inl (.inr (by rw [hk]; rfl)))).trans (Turn.drew (fun k => k = r) _) (fun k hk => .inl (.inr (by rw [hk]; rfl)))⟩
    · have hklz : ¬ (k : Int) < (d.pend.length : Int) := by omega
      obtain rfl : k = d.pend.length := by omega
      have HS : Hid (d.sync.2 = { d.at (syncTo d.pend d.sure d.pend.length) with pend := [] }) := by show d.sync.2 = _; rw [Dk.sync_ok hd]; rfl
      have M4 : Hid _ := hM.clear
      clear hM
      go_wp2
      go_ret
      refine ⟨rfl, HT.out.trans (Turn.setCell (X := fun k => k = b) _ rfl _) (fun k hk => .inl (.inl hk)), ?_⟩
      rw [HS.out]
      exact M4.out

set_option maxHeartbeats 1000000 in
theorem sync_no_r (h : RMem w b sv wv d) (hd : d.down = true) : Calls Tryd.prog 16 #[ptr b] w fun e w' => e = .returned (.int .i64 4) ∧ w = w' := by
  have c2 := h.c2
  rw [hd] at c2
  have lt := h.bl
  clear h
  go_enter Tryd.func16, Tryd.ntmps16
  go_wp2
  go_ret
  exact ⟨rfl, rfl⟩

end
end Go.Proofs.YtkbakmgjplhjiaaDoor

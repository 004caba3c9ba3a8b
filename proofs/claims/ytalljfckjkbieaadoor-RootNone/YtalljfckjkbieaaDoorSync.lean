/-
  The walk of Sync.
-/
import Derived.Test.YtalljfckjkbieaaDoorChg
import Derived.Deep.LoopGhost
namespace Go.Proofs.YtalljfckjkbieaaDoor
open Go.RowKit
set_option linter.unusedVariables false
open Go.ChangeMaps (setBlock)
section
variable {w w' : World} {b m g : Nat} {pv : Value} {br : Bool} {lf : Int} {d : Dk}

theorem Mem.pcells (h : Mem w b m g pv br lf d) {k : Nat} (hk : k < d.pend.length) : ∃ r c, pv = .slice (some ⟨r, 0, none⟩) d.pend.length c ∧ w.cell? ⟨r, k * 2, none⟩ = some (.int .i64 (wAt d.pend k).1) ∧ w.cell? ⟨r, k * 2 + 1, none⟩ = some (.string (wAt d.pend k).2) ∧ r < w.heap.size := by
  rcases h.pnd.2 with ⟨_, h2⟩ | ⟨r, c, cur, h1, _⟩
  · omega
  · have hp := h.pnd
    rw [h1] at hp
    refine ⟨r, c, h1, ?_, ?_, (h.pk (by rw [h1]; rfl)).1⟩
    · rw [hp.cellAt (k * 2) (by omega)]; exact (flatW_get d.pend k hk).1
    · rw [hp.cellAt (k * 2 + 1) (by omega)]; exact (flatW_get d.pend k hk).2

def Dk.at (d : Dk) (s : List ByteArray) : Dk := { d with sure := s }

set_option maxHeartbeats 2000000 in
set_option maxRecDepth 100000 in
theorem sync_ok (h : Mem w b m g pv br lf d) (hd : d.down = false) (hl : d.pend.length < 100000) :
    Calls Tryd.prog 51 #[ptr b] w fun e w' => e = .returned (.int .i64 0) ∧ Turn (fun k => k = b ∨ k = m ∨ k = g) w w' ∧ MemD w' b m g (.slice none 0 0) d.sync.2 := by
  have H : Hid (Mem w b m g pv br lf d) := h
  have c5 := h.c5
  rw [hd] at c5
  have c1 := h.c1
  have lt := h.bl
  obtain ⟨ao, c, epv⟩ := h.pv_slice
  rw [epv] at c1
  have EP : Hid (pv = .slice ao d.pend.length c) := epv
  clear h epv
  go_enter Tryd.func51, Tryd.ntmps51
  go_wp2
  go_loopg [18] d.pend.length (fun gk s18 wr => ∃ k : Nat, s18 = .int .i64 k ∧ k ≤ d.pend.length ∧ d.pend.length - k ≤ gk ∧ Aside (Mem wr b m g pv br lf (d.at (syncTo d.pend d.sure k))) ∧ Hid (Turn (fun k => k = g) w wr))
  case atStart => exact ⟨0, rfl, Nat.zero_le _, Nat.le_refl _, H.out, Turn.refl _ _⟩
  case round =>
    obtain ⟨k, rfl, hk, hgk, HM, HT⟩ := hrel
    have hM := HM.out
    by_cases hkl : k < d.pend.length
    · have hklz : (k : Int) < (d.pend.length : Int) := by omega
      obtain ⟨r, c', e1, x0, x1, hr⟩ := hM.pcells (k := k) hkl
      obtain ⟨rfl, rfl⟩ : ao = some ⟨r, 0, none⟩ ∧ c = c' := by have e2 := EP.out.symm.trans e1; simp [Dk.at] at e2; exact e2
      have hw := wAt_ok H.out.ok hkl
      have x0' : wr.cell? ⟨r, k * 2, none⟩ = some (.int .i64 (wAt d.pend k).1) := x0
      have x1' : wr.cell? ⟨r, k * 2 + 1, none⟩ = some (.string (wAt d.pend k).2) := x1
      have SS : Hid (syncTo d.pend d.sure (k + 1) = (syncTo d.pend d.sure k).set (wAt d.pend k).1 (wAt d.pend k).2) := syncTo_succ _ _ _
      generalize wAt d.pend k = p at *
      obtain ⟨pi, ps⟩ := p
      simp only at hw x0' x1'
      have hlen : (d.at (syncTo d.pend d.sure k)).sure.length = d.sure.length := syncTo_length _ _ _
      have hz : (sAt (syncTo d.pend d.sure k) pi).size = 256 := sAt_size hM.ok.sz (by rw [hlen]; exact hw.1)
      have SM : Hid _ := settle_m (hM.alloc (.cells #[.int .i64 pi, .string ps] 79)) pi (by rw [hlen]; exact hw.1) ps hw.2 256 (Nat.le_refl _)
      clear x0 x1 hM e1 hlen
      go_wp2_with fail
      refine Calls.mono SM.out ?_
      rintro e w3 ⟨rfl, t3, m3⟩
      have T3 : Hid (Turn (fun k => k = g) w w3) := (HT.out.trans (Turn.alloc (fun k => k = g) _ _) (fun _ hk => .inl hk)).trans t3 (fun _ hk => .inl hk)
      have M3 : Aside (Mem w3 b m g pv br lf (d.at (syncTo d.pend d.sure (k + 1)))) := by
        show Mem _ _ _ _ _ _ _ _
        rw [SS.out]
        rw [show tear 256 ps (sAt (d.at (syncTo d.pend d.sure k)).sure pi) = ps from tear_all hw.2 hz] at m3
        exact m3
      clear t3 m3 SM
      go_wp2
      go_roundg (d.pend.length - (k + 1))
      case measure => omega
      case rel => exact ⟨k + 1, by go_num, by omega, Nat.le_refl _, M3, T3⟩
    · have hklz : ¬ (k : Int) < (d.pend.length : Int) := by omega
      obtain rfl : k = d.pend.length := by omega
      have SM : Hid _ := forget_m hM
      have lt2 := hM.bl
      have HS : Hid (d.sync.2 = { d.at (syncTo d.pend d.sure d.pend.length) with pend := [] }) := by show d.sync.2 = _; unfold Dk.sync; rw [if_neg (by simp [hd])]; rfl
      clear hM
      go_wp2_with fail
      refine Calls.mono SM.out ?_
      rintro e w3 ⟨rfl, t3, m3⟩
      have T3 : Hid (Turn (fun k => k = b ∨ k = m ∨ k = g) w w3) := Turn.trans (X := fun k => k = b ∨ k = m ∨ k = g) ((Turn.refl _ w).trans HT.out (fun _ hk => .inl (.inr (.inr hk)))) t3 (fun _ hk => .inl (hk.elim .inl (fun e => .inr (.inl e))))
      have M3 : Hid (MemD w3 b m g (.slice none 0 0) d.sync.2) := by show MemD _ _ _ _ _ _; rw [HS.out]; exact m3
      clear t3 m3 SM
      go_wp2
      go_ret
      exact ⟨rfl, T3.out, M3.out⟩

set_option maxHeartbeats 1000000 in
theorem sync_no (h : Mem w b m g pv br lf d) (hd : d.down = true) : Calls Tryd.prog 51 #[ptr b] w fun e w' => e = .returned (.int .i64 4) ∧ w = w' := by
  have c5 := h.c5
  rw [hd] at c5
  have lt := h.bl
  clear h
  go_enter Tryd.func51, Tryd.ntmps51
  go_wp2
  go_ret
  exact ⟨rfl, rfl⟩

end
end Go.Proofs.YtalljfckjkbieaaDoor

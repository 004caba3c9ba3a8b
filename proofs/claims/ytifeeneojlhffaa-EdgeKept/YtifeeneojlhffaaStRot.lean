/-
  The stable sort at []api.Change: rotate.
-/
import Derived.Test.YtifeeneojlhffaaStKit
namespace Go.Proofs.Ytifeeneojlhffaa
open Go.Shelf Go.RowKit Go.Lib Go.Sort
variable {P : Program} {α : Type} [Inhabited α]

set_option maxHeartbeats 4000000 in
set_option maxRecDepth 1000000 in
theorem rotate_any (L : StP P) (k : Nat) (aE : ∀ w, (isAgg 50).run P w = .ok true w) (zE : ∀ w, (Go.sizeOf 50).run P w = .ok k w) (enc : α → List Value) (g : Nat) (cb : Array Value) (blk off cap a m b : Nat) (d0 d : Array α) (w0 w : World)
    (R : RowK enc k w0 blk off d0) (hs : d0.size = d.size) (S : SWK enc k w0 blk off d w) (ham : a < m) (hmb : m < b) (hb : b ≤ d.size) (hsz : d.size < 4611686018427387904) :
    Calls P 91 #[.slice (some ⟨blk, off, none⟩) d.size cap, .int .i64 a, .int .i64 m, .int .i64 b, .func (.func g) #[] cb] w fun e w' => e = .returned (.tuple #[]) ∧ ∃ d', Rot d a m b d' ∧ SWK enc k w0 blk off d' w' := by
  have mixed := L.mixed; have t0 := L.t0; have a0 := L.a0; have z0 := L.z0; have v0 := L.v0; have t3 := L.t3; have a3 := L.a3; have z3 := L.z3; have v3 := L.v3; have t4 := L.t4; have a4 := L.a4; have z4 := L.z4; have v4 := L.v4; have tS := L.tS; have aS := L.aS; have zS := L.zS; have vS := L.vS; have tF := L.tF; have aF := L.aF; have zF := L.zF; have vF := L.vF
  have eS : ∀ args w, (callFunc 92 args).run P w = .ok (.enter 92 args) w := enters_of L.fSwap (by kernel_rfl) rfl
  have S0 : Aside (SWK enc k w0 blk off d w) := S
  have LP : Aside (StP P) := L
  clear S
  go_enter L.fRot, Try.ntmps91
  clear L
  go_wp2
  go_loopg [10, 11] (b - a) (fun kx s10 s11 wr => ∃ (i j : Nat) (dk : Array α), s10 = .int .i64 i ∧ s11 = .int .i64 j ∧ 1 ≤ i ∧ 1 ≤ j ∧ i ≤ m ∧ m + j ≤ d.size ∧ i + j ≤ kx ∧ dk.size = d.size ∧ Aside (SWK enc k w0 blk off dk wr) ∧ Hid (∀ d', Rot dk (m - i) m (m + j) d' → Rot d a m b d'))
  case atStart => exact ⟨m - a, b - m, d, by go_num, by go_num, by omega, by omega, by omega, by omega, by omega, rfl, S0, fun d' h => by rwa [show m - (m - a) = a by omega, show m + (b - m) = b by omega] at h⟩
  case round =>
    clear S0
    obtain ⟨i, j, dk, rfl, rfl, hi, hj, him, hjm, hkx, hds, S1, HQ⟩ := hrel
    have em : ((m - i : Nat) : Int) = (m : Int) - (i : Int) := by omega
    rcases Nat.lt_trichotomy i j with hlt | heq | hgt
    · have h1 : ¬ ((i : Int) = (j : Int)) := by omega
      have h2 : ¬ ((j : Int) < (i : Int)) := by omega
      have C := swapRange_any LP.out k aE zE enc g cb blk off cap (m - i) (m + j - i) i d0 dk w0 wr R (by omega) S1.out (by omega) (by omega) (by omega)
      rw [em, hds, show ((m + j - i : Nat) : Int) = (m : Int) + (j : Int) - (i : Int) by omega] at C
      go_wp2_with (go_at_fn 92; refine C.mono ?_; rintro e w1 ⟨rfl, S2⟩)
      have S3 : Aside _ := S2
      clear C S1
      go_roundg (i + (j - i))
      case measure => omega
      case rel =>
        exact ⟨i, j - i, sr dk (m - i) (m + j - i) i, rfl, by go_num, hi, by omega, him, by omega, Nat.le_refl _, by rw [sr_size]; exact hds, S3, fun d' h => HQ.out d' (rot_more_right dk d' m i j him hlt (by omega) h)⟩
    · subst heq
      have C := swapRange_any LP.out k aE zE enc g cb blk off cap (m - i) m i d0 dk w0 wr R (by omega) S1.out (by omega) (by omega) (by omega)
      rw [em, hds] at C
      go_wp2_with (go_at_fn 92; refine C.mono ?_; rintro e w1 ⟨rfl, S2⟩)
      go_end0
      exact ⟨rfl, _, HQ.out _ (rot_even dk m i him (by omega)), S2⟩
    · have h1 : ¬ ((i : Int) = (j : Int)) := by omega
      have h2 : (j : Int) < (i : Int) := by omega
      have C := swapRange_any LP.out k aE zE enc g cb blk off cap (m - i) m j d0 dk w0 wr R (by omega) S1.out (by omega) (by omega) (by omega)
      rw [em, hds] at C
      go_wp2_with (go_at_fn 92; refine C.mono ?_; rintro e w1 ⟨rfl, S2⟩)
      have S3 : Aside _ := S2
      clear C S1
      go_roundg (i - j + j)
      case measure => omega
      case rel =>
        exact ⟨i - j, j, sr dk (m - i) m j, by go_num, rfl, by omega, hj, by omega, hjm, Nat.le_refl _, by rw [sr_size]; exact hds, S3, fun d' h => HQ.out d' (rot_more_left dk d' m i j him hgt (by omega) h)⟩

end Go.Proofs.Ytifeeneojlhffaa

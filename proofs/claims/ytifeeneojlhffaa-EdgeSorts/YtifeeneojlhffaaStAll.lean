/-
  The stable sort at []api.Change: the whole.
-/
import Derived.Test.YtifeeneojlhffaaStSym
namespace Go.Proofs.Ytifeeneojlhffaa
open Go.Shelf Go.RowKit Go.Lib Go.Sort
variable {P : Program} {α : Type} [Inhabited α]

theorem ins_facts {lt : α → α → Bool} (hO : SWO lt) (d : Array α) (a b : Nat) (h1 : a ≤ b) (h2 : b ≤ d.size) :
    (insertionSort lt d a b).size = d.size ∧ (∀ x, x < a ∨ b ≤ x → (insertionSort lt d a b)[x]! = d[x]!) ∧ SortedIn lt a b (insertionSort lt d a b) ∧ Stab lt d.toList (insertionSort lt d a b).toList := by
  have h := insertionSort_holds (lt := lt) hO d a b h1 h2
  exact ⟨h.1.1, h.1.2.1, h.2, stab_insertionSort a b d h2⟩

theorem dvd_next {bs a : Nat} (h : bs ∣ a) : bs ∣ a + bs := by
  obtain ⟨c, rfl⟩ := h
  exact ⟨c + 1, by rw [Nat.mul_add, Nat.mul_one]⟩

set_option maxHeartbeats 16000000 in
set_option maxRecDepth 1000000 in
theorem stable_any (L : StP P) (k : Nat) (aE : ∀ w, (isAgg 50).run P w = .ok true w) (zE : ∀ w, (Go.sizeOf 50).run P w = .ok k w) (enc : α → List Value) (cf : α → α → Int) (hO : SWO (ltOf cf)) (g : Nat) (cb : Array Value) (blk off cap N : Nat) (d0 d : Array α) (w0 w : World)
    (eg : ∀ args w, (callFunc g args).run P w = .ok (.enter g args) w) (hcmp : CmpLays P g cb enc k cf blk off d0.size w0)
    (R : RowK enc k w0 blk off d0) (hs : d0.size = N) (hN : d.size = N) (S : SWK enc k w0 blk off d w) (hsz : N < 2305843009213693952)
    (hI : ∀ (a b : Nat) (d : Array α) (w : World), d.size = N → SWK enc k w0 blk off d w → a ≤ b → b ≤ N → Calls P 86 #[.slice (some ⟨blk, off, none⟩) N cap, .int .i64 a, .int .i64 b, .func (.func g) #[] cb] w fun e w' => e = .returned (.tuple #[]) ∧ SWK enc k w0 blk off (insertionSort (ltOf cf) d a b) w') :
    Calls P 78 #[.slice (some ⟨blk, off, none⟩) N cap, .int .i64 N, .func (.func g) #[] cb] w fun e w' => e = .returned (.tuple #[]) ∧ ∃ d', d'.size = N ∧ SortedIn (ltOf cf) 0 N d' ∧ Stab (ltOf cf) d.toList d'.toList ∧ SWK enc k w0 blk off d' w' := by
  have mixed := L.mixed; have t0 := L.t0; have a0 := L.a0; have z0 := L.z0; have v0 := L.v0; have t3 := L.t3; have a3 := L.a3; have z3 := L.z3; have v3 := L.v3; have t4 := L.t4; have a4 := L.a4; have z4 := L.z4; have v4 := L.v4; have tS := L.tS; have aS := L.aS; have zS := L.zS; have vS := L.vS; have tF := L.tF; have aF := L.aF; have zF := L.zF; have vF := L.vF
  have eI := L.fIns
  have eM : ∀ args w, (callFunc 87 args).run P w = .ok (.enter 87 args) w := enters_of L.fSym (by kernel_rfl) rfl
  have SM : Hid (∀ a m b, SymC P enc k cf g cb blk off cap N w0 a m b) := fun a m b => symMerge_any L k aE zE enc cf hO g cb blk off cap N d0 w0 eg hcmp R hs (by omega) (b - a) a m b (Nat.le_refl _)
  have HI : Hid _ := hI
  have HO : Hid _ := hO
  have S0 : Aside (SWK enc k w0 blk off d w) := S
  have hNB : Hid (Blk (ltOf cf) 20 0 0 d) := fun x y h1 h2 h3 => by omega
  clear S hcmp hO hI
  go_enter L.fStab, Try.ntmps78
  clear L
  go_wp2
  go_loopg [7, 8] N (fun kx s7 s8 wr => ∃ (a b : Nat) (dk : Array α), s7 = .int .i64 a ∧ s8 = .int .i64 b ∧ b = a + 20 ∧ Hid (20 ∣ a) ∧ a ≤ N ∧ N - a ≤ kx ∧ dk.size = N ∧ Aside (SWK enc k w0 blk off dk wr) ∧ Hid (Stab (ltOf cf) d.toList dk.toList) ∧ Hid (Blk (ltOf cf) 20 0 a dk))
  case atStart => exact ⟨0, 20, d, rfl, rfl, rfl, Nat.dvd_zero _, Nat.zero_le _, Nat.le_refl _, hN, S0, Stab.refl _ _, hNB⟩
  case round =>
    clear S0 hNB
    obtain ⟨a, b, dk, rfl, rfl, hab', HD, haN, hkx, hds, S1, HS, HB⟩ := hrel
    have hab : Hid (b = a + 20) := hab'
    have hb1 : a + 20 ≤ b := by omega
    have hb2 : b ≤ a + 20 := by omega
    clear hab'
    by_cases hlt : b ≤ N
    · have hltz : (b : Int) ≤ (N : Int) := by omega
      have C := HI.out a b dk wr hds S1.out (by omega) hlt
      have F := ins_facts HO.out dk a b (by omega) (by omega)
      have HF : Aside _ := F
      clear F
      go_wp2_with (go_at_fn 86; refine C.mono ?_; rintro e w1 ⟨rfl, S2⟩)
      have S3 : Aside _ := S2
      clear C S1
      go_roundg (N - b)
      case measure => omega
      case rel =>
        exact ⟨b, b + 20, _, rfl, by go_num, rfl, by show 20 ∣ b; rw [hab.out]; exact dvd_next HD.out, hlt, Nat.le_refl _, HF.out.1.trans hds, S3, HS.out.trans HF.out.2.2.2, HB.out.step (by omega) HD.out (by omega) HF.out.2.2.1 (fun x hx => HF.out.2.1 x (Or.inl hx))⟩
    · have hltz : ¬ (b : Int) ≤ (N : Int) := by omega
      have C := HI.out a N dk wr hds S1.out (by omega) (Nat.le_refl _)
      have F := ins_facts HO.out dk a N (by omega) (by omega)
      have HF : Aside _ := F
      clear F
      go_wp2_with (go_at_fn 86; refine C.mono ?_; rintro e w1 ⟨rfl, S2⟩)
      have S3 : Aside (SWK enc k w0 blk off (insertionSort (ltOf cf) dk a N) w1) := S2
      have HB2 : Hid (Blk (ltOf cf) 20 0 N (insertionSort (ltOf cf) dk a N)) := HB.out.step (by omega) HD.out (by omega) HF.out.2.2.1 (fun x hx => HF.out.2.1 x (Or.inl hx))
      have HS2 : Hid (Stab (ltOf cf) d.toList (insertionSort (ltOf cf) dk a N).toList) := HS.out.trans HF.out.2.2.2
      have hz : (insertionSort (ltOf cf) dk a N).size = N := HF.out.1.trans hds
      clear C S1 S2 HB HS HF
      generalize insertionSort (ltOf cf) dk a N = dj at S3 HB2 HS2 hz
      go_loopg [6] N (fun kx s6 wr => ∃ (bs : Nat) (dk : Array α), s6 = .int .i64 bs ∧ 0 < bs ∧ bs ≤ 2 * N + 20 ∧ N - bs ≤ kx ∧ dk.size = N ∧ Aside (SWK enc k w0 blk off dk wr) ∧ Hid (Stab (ltOf cf) d.toList dk.toList) ∧ Hid (Blk (ltOf cf) bs 0 N dk))
      case atStart => exact ⟨20, dj, rfl, by omega, by omega, by omega, hz, S3, HS2, HB2⟩
      case round =>
        clear S3 HB2 HS2 hz
        obtain ⟨bs, dk, rfl, hbs, hbs2, hkx, hds, S1, HS, HB⟩ := hrel
        by_cases hbn : bs < N
        · have hbz : (bs : Int) < (N : Int) := by omega
          go_wp2
          go_loopg [7, 8] N (fun kx s7 s8 wr2 => ∃ (a b : Nat) (dq : Array α), s7 = .int .i64 a ∧ s8 = .int .i64 b ∧ b = a + 2 * bs ∧ Hid (2 * bs ∣ a) ∧ a ≤ N ∧ N - a ≤ kx ∧ dq.size = N ∧ Aside (SWK enc k w0 blk off dq wr2) ∧ Hid (Stab (ltOf cf) d.toList dq.toList) ∧ Hid (Blk (ltOf cf) (2 * bs) 0 a dq) ∧ Hid (Blk (ltOf cf) bs a N dq))
          case atStart => exact ⟨0, 2 * bs, dk, rfl, by go_num, by omega, Nat.dvd_zero _, Nat.zero_le _, Nat.le_refl _, hds, S1, HS, fun x y h1 h2 h3 => by omega, HB⟩
          case round =>
            clear S1 HS HB
            obtain ⟨a, b, dq, rfl, rfl, hab', HD, haN, hkx2, hdq, S1, HS, HB, HB2⟩ := hrel
            have hab : Hid (b = a + 2 * bs) := hab'
            have hb1 : a + 2 * bs ≤ b := by omega
            have hb2 : b ≤ a + 2 * bs := by omega
            clear hab'
            by_cases hlt2 : b ≤ N
            · have hltz2 : (b : Int) ≤ (N : Int) := by omega
              have HD1 : Hid (bs ∣ a) := Nat.dvd_trans (Nat.dvd_mul_left bs 2) HD.out
              have C := SM.out a (a + bs) b dq wr hdq S1.out (by omega) (by omega) hlt2 (HB2.out.part hbs HD1.out (Nat.le_refl _) (Nat.le_refl _) (by omega)) (HB2.out.part hbs (dvd_next HD1.out) (by omega) (by omega) (by omega))
              rw [show ((a + bs : Nat) : Int) = (a : Int) + (bs : Int) by omega] at C
              go_wp2_with (go_at_fn 87; refine C.mono ?_; rintro e w1 ⟨rfl, d2, G, S2⟩)
              have S3 : Aside _ := S2
              have HG : Aside _ := G
              clear C S1 S2 G
              go_roundg (N - b)
              case measure => omega
              case rel =>
                exact ⟨b, b + 2 * bs, d2, rfl, by go_num, rfl, by show 2 * bs ∣ b; rw [hab.out]; exact dvd_next HD.out, hlt2, Nat.le_refl _, HG.out.sz.trans hdq, S3, HS.out.trans HG.out.stab, HB.out.step (by omega) HD.out (by omega) HG.out.srt (fun x hx => HG.out.out x (Or.inl hx)), HB2.out.out (by omega) (fun x hx => HG.out.out x (Or.inr hx))⟩
            · have hltz2 : ¬ (b : Int) ≤ (N : Int) := by omega
              by_cases hm : a + bs < N
              · have hmz : (a : Int) + (bs : Int) < (N : Int) := by omega
                have HD1 : Hid (bs ∣ a) := Nat.dvd_trans (Nat.dvd_mul_left bs 2) HD.out
                have C := SM.out a (a + bs) N dq wr hdq S1.out (by omega) (by omega) (Nat.le_refl _) (HB2.out.part hbs HD1.out (Nat.le_refl _) (Nat.le_refl _) (by omega)) (HB2.out.part hbs (dvd_next HD1.out) (by omega) (by omega) (by omega))
                rw [show ((a + bs : Nat) : Int) = (a : Int) + (bs : Int) by omega] at C
                go_wp2_with (go_at_fn 87; refine C.mono ?_; rintro e w1 ⟨rfl, d2, G, S2⟩)
                have S3 : Aside _ := S2
                have HG : Aside _ := G
                clear C S1 S2 G
                go_roundg (N - 2 * bs)
                case measure => omega
                case rel =>
                  exact ⟨2 * bs, d2, by first | go_num | (congr 1; omega), by omega, by omega, Nat.le_refl _, HG.out.sz.trans hdq, S3, HS.out.trans HG.out.stab, HB.out.step (by omega) HD.out (by omega) HG.out.srt (fun x hx => HG.out.out x (Or.inl hx))⟩
              · have hmz : ¬ (a : Int) + (bs : Int) < (N : Int) := by omega
                go_wp2
                go_roundg (N - 2 * bs)
                case measure => omega
                case rel =>
                  exact ⟨2 * bs, dq, by first | go_num | (congr 1; omega), by omega, by omega, Nat.le_refl _, hdq, S1, HS, Blk.one a hbs HD.out (by omega) HB.out HB2.out⟩
        · have hbz : ¬ (bs : Int) < (N : Int) := by omega
          go_wp2
          go_end0
          exact ⟨rfl, dk, hds, blk_all HB.out (by omega), HS.out, S1.out⟩

end Go.Proofs.Ytifeeneojlhffaa

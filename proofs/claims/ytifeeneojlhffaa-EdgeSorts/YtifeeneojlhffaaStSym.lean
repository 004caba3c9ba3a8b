/-
  The stable sort at []api.Change: symMerge, whole.
-/
import Derived.Deep.Cut
import Derived.Test.YtifeeneojlhffaaStSymL
import Derived.Test.YtifeeneojlhffaaStSymR
namespace Go.Proofs.Ytifeeneojlhffaa
open Go.Shelf Go.RowKit Go.Lib Go.Sort
variable {P : Program} {α : Type} [Inhabited α]

theorem sym_lo {lt : α → α → Bool} (hO : SWO lt) {a m b p c x : Nat} {d : Array α} (hA : SortedIn lt a m d) (hB : SortedIn lt m b d) (h1 : a ≤ x) (h2 : x ≤ c) (h3 : c < m) (h4 : m ≤ p - c) (h5 : p - x < b) (h6 : c ≤ p)
    (h : lt d[p - c]! d[c]! = false) : lt d[p - x]! d[x]! = false := by
  rcases Nat.lt_or_eq_of_le h2 with e | e
  · exact hO.ntrans _ _ _ (hO.ntrans _ _ _ (hB (p - c) (p - x) h4 (by omega) h5) h) (hA x c h1 e h3)
  · rw [e]; exact h

theorem sym_hi {lt : α → α → Bool} (hO : SWO lt) {a m b p c x : Nat} {d : Array α} (hA : SortedIn lt a m d) (hB : SortedIn lt m b d) (h1 : a ≤ c) (h2 : c ≤ x) (h3 : x < m) (h4 : m ≤ p - x) (h5 : p - c < b) (h6 : x ≤ p)
    (h : lt d[p - c]! d[c]! = true) : lt d[p - x]! d[x]! = true := by
  rcases Nat.lt_or_eq_of_le h2 with e | e
  · cases hc : lt d[p - x]! d[x]! with
    | true => rfl
    | false =>
      have := hO.ntrans _ _ _ (hO.ntrans _ _ _ (hB (p - x) (p - c) h4 (by omega) h5) hc) (hA c x h1 e h3)
      rw [h] at this; cases this
  · rw [← e]; exact h

theorem srt_join {lt : α → α → Bool} {a s mid : Nat} {d : Array α} (h : ¬ (a < s ∧ s < mid)) (h1 : a ≤ s) (h2 : s ≤ mid) (hA : SortedIn lt a s d) (hB : SortedIn lt s mid d) : SortedIn lt a mid d := by
  by_cases c : a < s
  · obtain rfl : s = mid := by omega
    exact hA
  · obtain rfl : s = a := by omega
    exact hB

theorem srt_keep {lt : α → α → Bool} {a b mid : Nat} {d d' : Array α} (hm : Merged lt a mid d d') (h : mid ≤ b) {e : Nat} (hs : SortedIn lt b e d) : SortedIn lt b e d' := fun i j h1 h2 h3 => by
  rw [hm.out i (by omega), hm.out j (by omega)]; exact hs i j h1 h2 h3

/-- symMerge's contract at one place. -/
def SymC (P : Program) (enc : α → List Value) (k : Nat) (cf : α → α → Int) (g : Nat) (cb : Array Value) (blk off cap N : Nat) (w0 : World) (a m b : Nat) : Prop :=
  ∀ (d : Array α) (w : World), d.size = N → SWK enc k w0 blk off d w → a < m → m < b → b ≤ N → SortedIn (ltOf cf) a m d → SortedIn (ltOf cf) m b d →
    Calls P 87 #[.slice (some ⟨blk, off, none⟩) N cap, .int .i64 a, .int .i64 m, .int .i64 b, .func (.func g) #[] cb] w fun e w' => e = .returned (.tuple #[]) ∧ ∃ d', Merged (ltOf cf) a b d d' ∧ SWK enc k w0 blk off d' w'

set_option maxHeartbeats 16000000 in
set_option maxRecDepth 1000000 in
theorem sym_genA (L : StP P) (k : Nat) (aE : ∀ w, (isAgg 50).run P w = .ok true w) (zE : ∀ w, (Go.sizeOf 50).run P w = .ok k w) (enc : α → List Value) (cf : α → α → Int) (hO : SWO (ltOf cf)) (g : Nat) (cb : Array Value) (blk off cap N a m b : Nat) (d0 d : Array α) (w0 w : World)
    (eg : ∀ args w, (callFunc g args).run P w = .ok (.enter g args) w) (hcmp : CmpLays P g cb enc k cf blk off d0.size w0)
    (R : RowK enc k w0 blk off d0) (hs : d0.size = N) (hN : d.size = N) (S : SWK enc k w0 blk off d w) (ham : a + 1 < m) (hmb : m + 1 < b) (hb : b ≤ N) (hsz : N < 4611686018427387904) (hA : SortedIn (ltOf cf) a m d) (hB : SortedIn (ltOf cf) m b d)
    (hcase : (a + b) / 2 < m) (ih : ∀ a' m' b', b' - a' < b - a → SymC P enc k cf g cb blk off cap N w0 a' m' b') :
    Calls P 87 #[.slice (some ⟨blk, off, none⟩) N cap, .int .i64 a, .int .i64 m, .int .i64 b, .func (.func g) #[] cb] w fun e w' => e = .returned (.tuple #[]) ∧ ∃ d', Merged (ltOf cf) a b d d' ∧ SWK enc k w0 blk off d' w' := by
  have mixed := L.mixed; have t0 := L.t0; have a0 := L.a0; have z0 := L.z0; have v0 := L.v0; have t3 := L.t3; have a3 := L.a3; have z3 := L.z3; have v3 := L.v3; have t4 := L.t4; have a4 := L.a4; have z4 := L.z4; have v4 := L.v4; have tS := L.tS; have aS := L.aS; have zS := L.zS; have vS := L.vS; have tF := L.tF; have aF := L.aF; have zF := L.zF; have vF := L.vF; have tU := L.tU; have aU := L.aU; have zU := L.zU; have vU := L.vU
  have eR : ∀ args w, (callFunc 91 args).run P w = .ok (.enter 91 args) w := enters_of L.fRot (by kernel_rfl) rfl
  have eM : ∀ args w, (callFunc 87 args).run P w = .ok (.enter 87 args) w := enters_of L.fSym (by kernel_rfl) rfl
  have LP : Aside (StP P) := L
  have S0 : Aside (SWK enc k w0 blk off d w) := S
  have HC : Aside _ := hcmp
  have HA : Hid _ := hA
  have HB : Hid _ := hB
  have HO : Hid _ := hO
  have IH : Hid (∀ a' m' b', b' - a' < b - a → SymC P enc k cf g cb blk off cap N w0 a' m' b') := ih
  have hd : ((m : Int) - (a : Int) == 1) = false := by simp; omega
  have hd2 : ((b : Int) - (m : Int) == 1) = false := by simp; omega
  obtain ⟨mid, hmid⟩ : ∃ mid : Nat, ((a : Int) + (b : Int)) / 2 = (mid : Int) := ⟨(a + b) / 2, by omega⟩
  have wU : IntKind.u64.wrap ((a : Int) + (b : Int)) = (a : Int) + (b : Int) := by simp [IntKind.wrap, IntKind.bits, IntKind.signed]; omega
  have hmd : mid = (a + b) / 2 := by omega
  obtain ⟨s0, r0, hsr, hv⟩ : ∃ s0 r0 : Nat, ((m > mid ∧ s0 = mid + m - b ∧ r0 = mid) ∨ (¬ m > mid ∧ s0 = a ∧ r0 = m)) ∧ s0 ≤ r0 := by
    by_cases c : m > mid
    · exact ⟨_, _, Or.inl ⟨c, rfl, rfl⟩, by omega⟩
    · exact ⟨_, _, Or.inr ⟨c, rfl, rfl⟩, by omega⟩
  have HS : Hid ((m > mid ∧ s0 = mid + m - b ∧ r0 = mid) ∨ (¬ m > mid ∧ s0 = a ∧ r0 = m)) := hsr
  have HM : Hid (mid = (a + b) / 2) := hmd
  have b0 : a ≤ s0 := by omega
  have b1 : r0 ≤ m := by omega
  have b2 : r0 ≤ mid := by omega
  have b3 : mid + m ≤ s0 + b := by omega
  have b4 : mid < b := by omega
  have b5 : a < mid := by omega
  have hmz : (mid : Int) < (m : Int) := by omega
  have HSR : Hid (s0 = mid + m - b ∧ r0 = mid) := by show _ = _ ∧ _ = _; omega
  clear S hcmp hA hB hO ih hsr hmd hcase
  go_enter L.fSym, Try.ntmps87
  clear L
  go_wp2
  go_loopg [20, 21] (r0 - s0) (fun kx s20 s21 wr => ∃ (s r : Nat), s20 = .int .i64 s ∧ s21 = .int .i64 r ∧ s0 ≤ s ∧ s ≤ r ∧ r ≤ r0 ∧ r - s ≤ kx ∧ Aside (SWK enc k w0 blk off d wr) ∧ Hid ((∀ x, s0 ≤ x → x < s → ltOf cf d[mid + m - 1 - x]! d[x]! = false) ∧ (∀ x, r ≤ x → x < r0 → ltOf cf d[mid + m - 1 - x]! d[x]! = true)))
  case atStart => have hq := HSR.out; exact ⟨s0, r0, by first | go_num | (congr 1; omega), by first | go_num | (congr 1; omega), Nat.le_refl _, hv, Nat.le_refl _, Nat.le_refl _, S0, ⟨fun x h1 h2 => by omega, fun x h1 h2 => by omega⟩⟩
  case round =>
    clear S0
    obtain ⟨s, r, rfl, rfl, h0s, hsr', hrr, hkx, S1, HQ⟩ := hrel
    by_cases hlt : s < r
    · have hltz : (s : Int) < (r : Int) := by omega
      have wU2 : IntKind.u64.wrap ((s : Int) + (r : Int)) = (s : Int) + (r : Int) := by simp [IntKind.wrap, IntKind.bits, IntKind.signed]; omega
      go_wp2_with fail
      obtain ⟨c, hh⟩ : ∃ c : Nat, ((s : Int) + (r : Int)) / 2 = (c : Int) := ⟨(s + r) / 2, by omega⟩
      have hsc : s ≤ c := by omega
      have hcr : c < r := by omega
      rw [hh]
      clear hh wU2
      obtain ⟨p, hp⟩ : ∃ p : Nat, mid + m - 1 - c = p := ⟨_, rfl⟩
      have hpz : ((mid : Int) + (m : Int) - 1 - (c : Int)).toNat = p := by omega
      have hpy : (0 : Int) ≤ (mid : Int) + (m : Int) - 1 - (c : Int) := by omega
      have hpw : (c : Int) ≤ (mid : Int) + (m : Int) - 1 := by omega
      have hpx : (mid : Int) + (m : Int) - 1 - (c : Int) < (N : Int) := by omega
      obtain ⟨xp, hxp⟩ : ∃ x, d[p]! = x := ⟨_, rfl⟩
      obtain ⟨xc, hxc⟩ : ∃ x, d[c]! = x := ⟨_, rfl⟩
      have pz : (0 : Int) ≤ (p : Int) := by omega
      have bz : (p : Int) < (N : Int) := by omega
      have pc : (0 : Int) ≤ (c : Int) := by omega
      have bc : (c : Int) < (N : Int) := by omega
      have wz : IntKind.i64.wrap ((mid : Int) + (m : Int) - 1 - (c : Int)) = (mid : Int) + (m : Int) - 1 - (c : Int) := by rw [IntKind.wrap_i64]; omega
      have lp := fun n' os' => S1.out.ld R (by omega) P p (by omega) n' os'
      have lc := fun n' os' => S1.out.ld R (by omega) P c (by omega) n' os'
      have hcg := fun n' os' => S1.out.cmp HC.out (by omega) xp xc n' os'
      rw [hxp] at lp
      rw [hxc] at lc
      have M1 : Aside (ltOf cf xp xc = false → ∀ x, s0 ≤ x → x ≤ c → ltOf cf d[mid + m - 1 - x]! d[x]! = false) := fun hl x h1 h2 => sym_lo HO.out HA.out HB.out (by omega) h2 (by omega) (by omega) (by omega) (by omega) (by rw [hp, hxp, hxc]; exact hl)
      have M2 : Aside (ltOf cf xp xc = true → ∀ x, c ≤ x → x < r0 → ltOf cf d[mid + m - 1 - x]! d[x]! = true) := fun hl x h1 h2 => sym_hi HO.out HA.out HB.out (by omega) h1 (by omega) (by omega) (by omega) (by omega) (by rw [hp, hxp, hxc]; exact hl)
      have XH : Hid (d[p]! = xp ∧ d[c]! = xc) := ⟨hxp, hxc⟩
      have HP : Hid (mid + m - 1 - c = p) := hp
      clear hxp hxc hp
      by_cases hlv : ¬ cf xp xc < 0
      · have hlb : decide (cf xp xc < 0) = false := decide_eq_false hlv
        go_wp2_with fail
        go_quiet_grown (first | (go_at_fn g; refine Calls.grown_of (hcg _ _)))
        have S2 : Aside (SWK enc k w0 blk off d (grow (wr.drewN nq) osq)) := S1.out.grown nq osq
        clear lp lc hcg S1
        generalize grow (wr.drewN nq) osq = w2 at S2 ⊢
        go_wp2
        go_roundg (r - (c + 1))
        case measure => omega
        case rel => exact ⟨c + 1, r, by go_num, rfl, by omega, by omega, hrr, Nat.le_refl _, S2, ⟨fun x h1 h2 => M1.out (decide_eq_false (by omega)) x h1 (by omega), HQ.out.2⟩⟩
      · go_wp2_with fail
        go_quiet_grown (first | (go_at_fn g; refine Calls.grown_of (hcg _ _)))
        have S2 : Aside (SWK enc k w0 blk off d (grow (wr.drewN nq) osq)) := S1.out.grown nq osq
        clear lp lc hcg S1
        generalize grow (wr.drewN nq) osq = w2 at S2 ⊢
        go_wp2
        go_roundg (c - s)
        case measure => omega
        case rel => exact ⟨s, c, rfl, rfl, h0s, hsc, by omega, Nat.le_refl _, S2, ⟨HQ.out.1, fun x h1 h2 => M2.out (decide_eq_true (by omega)) x h1 h2⟩⟩
    · have hltz : ¬ (s : Int) < (r : Int) := by omega
      obtain rfl : s = r := by omega
      obtain ⟨en, hen⟩ : ∃ en : Nat, mid + m - s = en := ⟨_, rfl⟩
      have henz : (mid : Int) + (m : Int) - (s : Int) = (en : Int) := by omega
      have CUT : Aside (∀ d1, Rot d s m en d1 → Cutted (ltOf cf) a mid b d d1 ∧ SortedIn (ltOf cf) a s d1 ∧ SortedIn (ltOf cf) s mid d1 ∧ SortedIn (ltOf cf) mid en d1 ∧ SortedIn (ltOf cf) en b d1) := fun d1 hr => by
        have q := cut_sym HO.out (s := s) (d1 := d1) (by omega : a < m) (by omega : m < b) (by omega) HM.out HS.out h0s hrr HA.out HB.out HQ.out.1 HQ.out.2 (by rw [hen]; exact hr)
        rwa [hen] at q
      have c1 : s ≤ m := by omega
      have c2 : m ≤ en := by omega
      have c3 : s ≤ mid := by omega
      have c4 : en ≤ b := by omega
      have c5 : mid ≤ en := by omega
      have hen' : mid + m = en + s := by omega
      clear hen
      by_cases hR : s < m ∧ m < en
      · by_cases hF : a < s
        · by_cases hG : en < b
          · skip
            have q1 : (s : Int) < (m : Int) := by omega
            have q2 : (m : Int) < (en : Int) := by omega
            have C := rotate_any LP.out k aE zE enc g cb blk off cap s m en d0 d w0 wr R (by omega) S1.out (by omega) (by omega) (by omega) (by omega)
            rw [hN] at C
            have f1 : (a : Int) < (s : Int) := by omega
            have f2 : (s : Int) < (mid : Int) := by omega
            have g1 : (mid : Int) < (en : Int) := by omega
            have g2 : (en : Int) < (b : Int) := by omega
            go_upto_region 41 with (go_at_fn 91; refine C.mono ?_; rintro e w1 ⟨rfl, d1, r1, S2⟩)
            clear C
            have hz1 : d1.size = N := r1.sz.trans hN
            have HR : Aside (Rot d s m en d1) := r1
            have S3 : Aside (SWK enc k w0 blk off d1 w1) := S2
            clear r1 S2 S1
            obtain ⟨K1, K2, K3, K4, K5⟩ : Aside (Cutted (ltOf cf) a mid b d d1) ∧ Aside (SortedIn (ltOf cf) a s d1) ∧ Aside (SortedIn (ltOf cf) s mid d1) ∧ Aside (SortedIn (ltOf cf) mid en d1) ∧ Aside (SortedIn (ltOf cf) en b d1) := CUT.out d1 HR.out
            clear HR CUT HQ
            have C := IH.out a s mid (by omega) d1 w1 hz1 S3.out (by omega) (by omega) (by omega) K2.out K3.out
            go_upto_region 43 with (go_at_fn 87; refine C.mono ?_; rintro e w2 ⟨rfl, d2, r2, S4⟩)
            clear C
            have HM2 : Aside (Merged (ltOf cf) a mid d1 d2) := r2
            have hz2 : d2.size = N := r2.sz.trans hz1
            have S5 : Aside (SWK enc k w0 blk off d2 w2) := S4
            clear r2 S4 S3
            have K6 : Aside (SortedIn (ltOf cf) mid en d2) := srt_keep HM2.out (Nat.le_refl _) K4.out
            have K7 : Aside (SortedIn (ltOf cf) en b d2) := srt_keep HM2.out c5 K5.out
            clear K2 K3 K4 K5
            have C := IH.out mid en b (by omega) d2 w2 hz2 S5.out (by omega) (by omega) hb K6.out K7.out
            go_wp2_with (go_at_fn 87; refine C.mono ?_; rintro e w3 ⟨rfl, d3, r3, S6⟩)
            go_end0
            exact ⟨rfl, d3, K1.out.glue (by omega) (by omega) HM2.out r3, S6⟩
          · skip
            have q1 : (s : Int) < (m : Int) := by omega
            have q2 : (m : Int) < (en : Int) := by omega
            have C := rotate_any LP.out k aE zE enc g cb blk off cap s m en d0 d w0 wr R (by omega) S1.out (by omega) (by omega) (by omega) (by omega)
            rw [hN] at C
            have f1 : (a : Int) < (s : Int) := by omega
            have f2 : (s : Int) < (mid : Int) := by omega
            have g1 : (mid : Int) < (en : Int) := by omega
            have g2 : ¬ (en : Int) < (b : Int) := by omega
            go_upto_region 41 with (go_at_fn 91; refine C.mono ?_; rintro e w1 ⟨rfl, d1, r1, S2⟩)
            clear C
            have hz1 : d1.size = N := r1.sz.trans hN
            have HR : Aside (Rot d s m en d1) := r1
            have S3 : Aside (SWK enc k w0 blk off d1 w1) := S2
            clear r1 S2 S1
            obtain ⟨K1, K2, K3, K4, K5⟩ : Aside (Cutted (ltOf cf) a mid b d d1) ∧ Aside (SortedIn (ltOf cf) a s d1) ∧ Aside (SortedIn (ltOf cf) s mid d1) ∧ Aside (SortedIn (ltOf cf) mid en d1) ∧ Aside (SortedIn (ltOf cf) en b d1) := CUT.out d1 HR.out
            clear HR CUT HQ
            have C := IH.out a s mid (by omega) d1 w1 hz1 S3.out (by omega) (by omega) (by omega) K2.out K3.out
            go_upto_region 43 with (go_at_fn 87; refine C.mono ?_; rintro e w2 ⟨rfl, d2, r2, S4⟩)
            clear C
            have HM2 : Aside (Merged (ltOf cf) a mid d1 d2) := r2
            have hz2 : d2.size = N := r2.sz.trans hz1
            have S5 : Aside (SWK enc k w0 blk off d2 w2) := S4
            clear r2 S4 S3
            have K6 : Aside (SortedIn (ltOf cf) mid en d2) := srt_keep HM2.out (Nat.le_refl _) K4.out
            have K7 : Aside (SortedIn (ltOf cf) en b d2) := srt_keep HM2.out c5 K5.out
            clear K2 K3 K4 K5
            have RS : Aside (Merged (ltOf cf) mid b d2 d2) := Merged.refl (srt_join (by omega) c5 c4 K6.out K7.out)
            go_wp2_with fail
            go_end0
            exact ⟨rfl, d2, K1.out.glue (by omega) (by omega) HM2.out RS.out, S5.out⟩
        · by_cases hG : en < b
          · skip
            have q1 : (s : Int) < (m : Int) := by omega
            have q2 : (m : Int) < (en : Int) := by omega
            have C := rotate_any LP.out k aE zE enc g cb blk off cap s m en d0 d w0 wr R (by omega) S1.out (by omega) (by omega) (by omega) (by omega)
            rw [hN] at C
            have f1 : ¬ (a : Int) < (s : Int) := by omega
            have g1 : (mid : Int) < (en : Int) := by omega
            have g2 : (en : Int) < (b : Int) := by omega
            go_upto_region 41 with (go_at_fn 91; refine C.mono ?_; rintro e w1 ⟨rfl, d1, r1, S2⟩)
            clear C
            have hz1 : d1.size = N := r1.sz.trans hN
            have HR : Aside (Rot d s m en d1) := r1
            have S3 : Aside (SWK enc k w0 blk off d1 w1) := S2
            clear r1 S2 S1
            obtain ⟨K1, K2, K3, K4, K5⟩ : Aside (Cutted (ltOf cf) a mid b d d1) ∧ Aside (SortedIn (ltOf cf) a s d1) ∧ Aside (SortedIn (ltOf cf) s mid d1) ∧ Aside (SortedIn (ltOf cf) mid en d1) ∧ Aside (SortedIn (ltOf cf) en b d1) := CUT.out d1 HR.out
            clear HR CUT HQ
            have HM1 : Aside (Merged (ltOf cf) a mid d1 d1) := Merged.refl (srt_join (by omega) (by omega) c3 K2.out K3.out)
            go_upto_region 43 with fail
            obtain ⟨d2, hd2'⟩ : ∃ x, x = d1 := ⟨_, rfl⟩
            have HM2 : Aside (Merged (ltOf cf) a mid d1 d2) := by rw [hd2']; exact HM1
            have hz2 : d2.size = N := by rw [hd2']; exact hz1
            have S5 : Aside (SWK enc k w0 blk off d2 w1) := by rw [hd2']; exact S3
            clear hd2' HM1 S3
            have K6 : Aside (SortedIn (ltOf cf) mid en d2) := srt_keep HM2.out (Nat.le_refl _) K4.out
            have K7 : Aside (SortedIn (ltOf cf) en b d2) := srt_keep HM2.out c5 K5.out
            clear K2 K3 K4 K5
            have C := IH.out mid en b (by omega) d2 w1 hz2 S5.out (by omega) (by omega) hb K6.out K7.out
            go_wp2_with (go_at_fn 87; refine C.mono ?_; rintro e w3 ⟨rfl, d3, r3, S6⟩)
            go_end0
            exact ⟨rfl, d3, K1.out.glue (by omega) (by omega) HM2.out r3, S6⟩
          · skip
            have q1 : (s : Int) < (m : Int) := by omega
            have q2 : (m : Int) < (en : Int) := by omega
            have C := rotate_any LP.out k aE zE enc g cb blk off cap s m en d0 d w0 wr R (by omega) S1.out (by omega) (by omega) (by omega) (by omega)
            rw [hN] at C
            have f1 : ¬ (a : Int) < (s : Int) := by omega
            have g1 : (mid : Int) < (en : Int) := by omega
            have g2 : ¬ (en : Int) < (b : Int) := by omega
            go_upto_region 41 with (go_at_fn 91; refine C.mono ?_; rintro e w1 ⟨rfl, d1, r1, S2⟩)
            clear C
            have hz1 : d1.size = N := r1.sz.trans hN
            have HR : Aside (Rot d s m en d1) := r1
            have S3 : Aside (SWK enc k w0 blk off d1 w1) := S2
            clear r1 S2 S1
            obtain ⟨K1, K2, K3, K4, K5⟩ : Aside (Cutted (ltOf cf) a mid b d d1) ∧ Aside (SortedIn (ltOf cf) a s d1) ∧ Aside (SortedIn (ltOf cf) s mid d1) ∧ Aside (SortedIn (ltOf cf) mid en d1) ∧ Aside (SortedIn (ltOf cf) en b d1) := CUT.out d1 HR.out
            clear HR CUT HQ
            have HM1 : Aside (Merged (ltOf cf) a mid d1 d1) := Merged.refl (srt_join (by omega) (by omega) c3 K2.out K3.out)
            go_upto_region 43 with fail
            obtain ⟨d2, hd2'⟩ : ∃ x, x = d1 := ⟨_, rfl⟩
            have HM2 : Aside (Merged (ltOf cf) a mid d1 d2) := by rw [hd2']; exact HM1
            have hz2 : d2.size = N := by rw [hd2']; exact hz1
            have S5 : Aside (SWK enc k w0 blk off d2 w1) := by rw [hd2']; exact S3
            clear hd2' HM1 S3
            have K6 : Aside (SortedIn (ltOf cf) mid en d2) := srt_keep HM2.out (Nat.le_refl _) K4.out
            have K7 : Aside (SortedIn (ltOf cf) en b d2) := srt_keep HM2.out c5 K5.out
            clear K2 K3 K4 K5
            have RS : Aside (Merged (ltOf cf) mid b d2 d2) := Merged.refl (srt_join (by omega) c5 c4 K6.out K7.out)
            go_wp2_with fail
            go_end0
            exact ⟨rfl, d2, K1.out.glue (by omega) (by omega) HM2.out RS.out, S5.out⟩
      · skip
        have q1 : (s : Int) < (m : Int) := by omega
        have q2 : ¬ (m : Int) < (en : Int) := by omega
        have f1 : (a : Int) < (s : Int) := by omega
        have f2 : ¬ (s : Int) < (mid : Int) := by omega
        have g1 : (mid : Int) < (en : Int) := by omega
        have g2 : (en : Int) < (b : Int) := by omega
        go_upto_region 41 with fail
        obtain ⟨d1, hd1⟩ : ∃ x, x = d := ⟨_, rfl⟩
        have hz1 : d1.size = N := by rw [hd1]; exact hN
        have HR : Aside (Rot d s m en d1) := by rw [hd1]; exact Rot.same d s en (by omega) (by omega) m (by omega)
        have S3 : Aside (SWK enc k w0 blk off d1 wr) := by rw [hd1]; exact S1
        clear hd1 S1
        obtain ⟨K1, K2, K3, K4, K5⟩ : Aside (Cutted (ltOf cf) a mid b d d1) ∧ Aside (SortedIn (ltOf cf) a s d1) ∧ Aside (SortedIn (ltOf cf) s mid d1) ∧ Aside (SortedIn (ltOf cf) mid en d1) ∧ Aside (SortedIn (ltOf cf) en b d1) := CUT.out d1 HR.out
        clear HR CUT HQ
        have HM1 : Aside (Merged (ltOf cf) a mid d1 d1) := Merged.refl (srt_join (by omega) (by omega) c3 K2.out K3.out)
        go_upto_region 43 with fail
        obtain ⟨d2, hd2'⟩ : ∃ x, x = d1 := ⟨_, rfl⟩
        have HM2 : Aside (Merged (ltOf cf) a mid d1 d2) := by rw [hd2']; exact HM1
        have hz2 : d2.size = N := by rw [hd2']; exact hz1
        have S5 : Aside (SWK enc k w0 blk off d2 wr) := by rw [hd2']; exact S3
        clear hd2' HM1 S3
        have K6 : Aside (SortedIn (ltOf cf) mid en d2) := srt_keep HM2.out (Nat.le_refl _) K4.out
        have K7 : Aside (SortedIn (ltOf cf) en b d2) := srt_keep HM2.out c5 K5.out
        clear K2 K3 K4 K5
        have C := IH.out mid en b (by omega) d2 wr hz2 S5.out (by omega) (by omega) hb K6.out K7.out
        go_wp2_with (go_at_fn 87; refine C.mono ?_; rintro e w3 ⟨rfl, d3, r3, S6⟩)
        go_end0
        exact ⟨rfl, d3, K1.out.glue (by omega) (by omega) HM2.out r3, S6⟩

set_option maxHeartbeats 16000000 in
set_option maxRecDepth 1000000 in
theorem sym_genB (L : StP P) (k : Nat) (aE : ∀ w, (isAgg 50).run P w = .ok true w) (zE : ∀ w, (Go.sizeOf 50).run P w = .ok k w) (enc : α → List Value) (cf : α → α → Int) (hO : SWO (ltOf cf)) (g : Nat) (cb : Array Value) (blk off cap N a m b : Nat) (d0 d : Array α) (w0 w : World)
    (eg : ∀ args w, (callFunc g args).run P w = .ok (.enter g args) w) (hcmp : CmpLays P g cb enc k cf blk off d0.size w0)
    (R : RowK enc k w0 blk off d0) (hs : d0.size = N) (hN : d.size = N) (S : SWK enc k w0 blk off d w) (ham : a + 1 < m) (hmb : m + 1 < b) (hb : b ≤ N) (hsz : N < 4611686018427387904) (hA : SortedIn (ltOf cf) a m d) (hB : SortedIn (ltOf cf) m b d)
    (hcase : ¬ (a + b) / 2 < m) (ih : ∀ a' m' b', b' - a' < b - a → SymC P enc k cf g cb blk off cap N w0 a' m' b') :
    Calls P 87 #[.slice (some ⟨blk, off, none⟩) N cap, .int .i64 a, .int .i64 m, .int .i64 b, .func (.func g) #[] cb] w fun e w' => e = .returned (.tuple #[]) ∧ ∃ d', Merged (ltOf cf) a b d d' ∧ SWK enc k w0 blk off d' w' := by
  have mixed := L.mixed; have t0 := L.t0; have a0 := L.a0; have z0 := L.z0; have v0 := L.v0; have t3 := L.t3; have a3 := L.a3; have z3 := L.z3; have v3 := L.v3; have t4 := L.t4; have a4 := L.a4; have z4 := L.z4; have v4 := L.v4; have tS := L.tS; have aS := L.aS; have zS := L.zS; have vS := L.vS; have tF := L.tF; have aF := L.aF; have zF := L.zF; have vF := L.vF; have tU := L.tU; have aU := L.aU; have zU := L.zU; have vU := L.vU
  have eR : ∀ args w, (callFunc 91 args).run P w = .ok (.enter 91 args) w := enters_of L.fRot (by kernel_rfl) rfl
  have eM : ∀ args w, (callFunc 87 args).run P w = .ok (.enter 87 args) w := enters_of L.fSym (by kernel_rfl) rfl
  have LP : Aside (StP P) := L
  have S0 : Aside (SWK enc k w0 blk off d w) := S
  have HC : Aside _ := hcmp
  have HA : Hid _ := hA
  have HB : Hid _ := hB
  have HO : Hid _ := hO
  have IH : Hid (∀ a' m' b', b' - a' < b - a → SymC P enc k cf g cb blk off cap N w0 a' m' b') := ih
  have hd : ((m : Int) - (a : Int) == 1) = false := by simp; omega
  have hd2 : ((b : Int) - (m : Int) == 1) = false := by simp; omega
  obtain ⟨mid, hmid⟩ : ∃ mid : Nat, ((a : Int) + (b : Int)) / 2 = (mid : Int) := ⟨(a + b) / 2, by omega⟩
  have wU : IntKind.u64.wrap ((a : Int) + (b : Int)) = (a : Int) + (b : Int) := by simp [IntKind.wrap, IntKind.bits, IntKind.signed]; omega
  have hmd : mid = (a + b) / 2 := by omega
  obtain ⟨s0, r0, hsr, hv⟩ : ∃ s0 r0 : Nat, ((m > mid ∧ s0 = mid + m - b ∧ r0 = mid) ∨ (¬ m > mid ∧ s0 = a ∧ r0 = m)) ∧ s0 ≤ r0 := by
    by_cases c : m > mid
    · exact ⟨_, _, Or.inl ⟨c, rfl, rfl⟩, by omega⟩
    · exact ⟨_, _, Or.inr ⟨c, rfl, rfl⟩, by omega⟩
  have HS : Hid ((m > mid ∧ s0 = mid + m - b ∧ r0 = mid) ∨ (¬ m > mid ∧ s0 = a ∧ r0 = m)) := hsr
  have HM : Hid (mid = (a + b) / 2) := hmd
  have b0 : a ≤ s0 := by omega
  have b1 : r0 ≤ m := by omega
  have b2 : r0 ≤ mid := by omega
  have b3 : mid + m ≤ s0 + b := by omega
  have b4 : mid < b := by omega
  have b5 : a < mid := by omega
  have hmz : ¬ (mid : Int) < (m : Int) := by omega
  have HSR : Hid (s0 = a ∧ r0 = m) := by show _ = _ ∧ _ = _; omega
  clear S hcmp hA hB hO ih hsr hmd hcase
  go_enter L.fSym, Try.ntmps87
  clear L
  go_wp2
  go_loopg [20, 21] (r0 - s0) (fun kx s20 s21 wr => ∃ (s r : Nat), s20 = .int .i64 s ∧ s21 = .int .i64 r ∧ s0 ≤ s ∧ s ≤ r ∧ r ≤ r0 ∧ r - s ≤ kx ∧ Aside (SWK enc k w0 blk off d wr) ∧ Hid ((∀ x, s0 ≤ x → x < s → ltOf cf d[mid + m - 1 - x]! d[x]! = false) ∧ (∀ x, r ≤ x → x < r0 → ltOf cf d[mid + m - 1 - x]! d[x]! = true)))
  case atStart => have hq := HSR.out; exact ⟨s0, r0, by first | go_num | (congr 1; omega), by first | go_num | (congr 1; omega), Nat.le_refl _, hv, Nat.le_refl _, Nat.le_refl _, S0, ⟨fun x h1 h2 => by omega, fun x h1 h2 => by omega⟩⟩
  case round =>
    clear S0
    obtain ⟨s, r, rfl, rfl, h0s, hsr', hrr, hkx, S1, HQ⟩ := hrel
    by_cases hlt : s < r
    · have hltz : (s : Int) < (r : Int) := by omega
      have wU2 : IntKind.u64.wrap ((s : Int) + (r : Int)) = (s : Int) + (r : Int) := by simp [IntKind.wrap, IntKind.bits, IntKind.signed]; omega
      go_wp2_with fail
      obtain ⟨c, hh⟩ : ∃ c : Nat, ((s : Int) + (r : Int)) / 2 = (c : Int) := ⟨(s + r) / 2, by omega⟩
      have hsc : s ≤ c := by omega
      have hcr : c < r := by omega
      rw [hh]
      clear hh wU2
      obtain ⟨p, hp⟩ : ∃ p : Nat, mid + m - 1 - c = p := ⟨_, rfl⟩
      have hpz : ((mid : Int) + (m : Int) - 1 - (c : Int)).toNat = p := by omega
      have hpy : (0 : Int) ≤ (mid : Int) + (m : Int) - 1 - (c : Int) := by omega
      have hpw : (c : Int) ≤ (mid : Int) + (m : Int) - 1 := by omega
      have hpx : (mid : Int) + (m : Int) - 1 - (c : Int) < (N : Int) := by omega
      obtain ⟨xp, hxp⟩ : ∃ x, d[p]! = x := ⟨_, rfl⟩
      obtain ⟨xc, hxc⟩ : ∃ x, d[c]! = x := ⟨_, rfl⟩
      have pz : (0 : Int) ≤ (p : Int) := by omega
      have bz : (p : Int) < (N : Int) := by omega
      have pc : (0 : Int) ≤ (c : Int) := by omega
      have bc : (c : Int) < (N : Int) := by omega
      have wz : IntKind.i64.wrap ((mid : Int) + (m : Int) - 1 - (c : Int)) = (mid : Int) + (m : Int) - 1 - (c : Int) := by rw [IntKind.wrap_i64]; omega
      have lp := fun n' os' => S1.out.ld R (by omega) P p (by omega) n' os'
      have lc := fun n' os' => S1.out.ld R (by omega) P c (by omega) n' os'
      have hcg := fun n' os' => S1.out.cmp HC.out (by omega) xp xc n' os'
      rw [hxp] at lp
      rw [hxc] at lc
      have M1 : Aside (ltOf cf xp xc = false → ∀ x, s0 ≤ x → x ≤ c → ltOf cf d[mid + m - 1 - x]! d[x]! = false) := fun hl x h1 h2 => sym_lo HO.out HA.out HB.out (by omega) h2 (by omega) (by omega) (by omega) (by omega) (by rw [hp, hxp, hxc]; exact hl)
      have M2 : Aside (ltOf cf xp xc = true → ∀ x, c ≤ x → x < r0 → ltOf cf d[mid + m - 1 - x]! d[x]! = true) := fun hl x h1 h2 => sym_hi HO.out HA.out HB.out (by omega) h1 (by omega) (by omega) (by omega) (by omega) (by rw [hp, hxp, hxc]; exact hl)
      have XH : Hid (d[p]! = xp ∧ d[c]! = xc) := ⟨hxp, hxc⟩
      have HP : Hid (mid + m - 1 - c = p) := hp
      clear hxp hxc hp
      by_cases hlv : ¬ cf xp xc < 0
      · have hlb : decide (cf xp xc < 0) = false := decide_eq_false hlv
        go_wp2_with fail
        go_quiet_grown (first | (go_at_fn g; refine Calls.grown_of (hcg _ _)))
        have S2 : Aside (SWK enc k w0 blk off d (grow (wr.drewN nq) osq)) := S1.out.grown nq osq
        clear lp lc hcg S1
        generalize grow (wr.drewN nq) osq = w2 at S2 ⊢
        go_wp2
        go_roundg (r - (c + 1))
        case measure => omega
        case rel => exact ⟨c + 1, r, by go_num, rfl, by omega, by omega, hrr, Nat.le_refl _, S2, ⟨fun x h1 h2 => M1.out (decide_eq_false (by omega)) x h1 (by omega), HQ.out.2⟩⟩
      · go_wp2_with fail
        go_quiet_grown (first | (go_at_fn g; refine Calls.grown_of (hcg _ _)))
        have S2 : Aside (SWK enc k w0 blk off d (grow (wr.drewN nq) osq)) := S1.out.grown nq osq
        clear lp lc hcg S1
        generalize grow (wr.drewN nq) osq = w2 at S2 ⊢
        go_wp2
        go_roundg (c - s)
        case measure => omega
        case rel => exact ⟨s, c, rfl, rfl, h0s, hsc, by omega, Nat.le_refl _, S2, ⟨HQ.out.1, fun x h1 h2 => M2.out (decide_eq_true (by omega)) x h1 h2⟩⟩
    · have hltz : ¬ (s : Int) < (r : Int) := by omega
      obtain rfl : s = r := by omega
      obtain ⟨en, hen⟩ : ∃ en : Nat, mid + m - s = en := ⟨_, rfl⟩
      have henz : (mid : Int) + (m : Int) - (s : Int) = (en : Int) := by omega
      have CUT : Aside (∀ d1, Rot d s m en d1 → Cutted (ltOf cf) a mid b d d1 ∧ SortedIn (ltOf cf) a s d1 ∧ SortedIn (ltOf cf) s mid d1 ∧ SortedIn (ltOf cf) mid en d1 ∧ SortedIn (ltOf cf) en b d1) := fun d1 hr => by
        have q := cut_sym HO.out (s := s) (d1 := d1) (by omega : a < m) (by omega : m < b) (by omega) HM.out HS.out h0s hrr HA.out HB.out HQ.out.1 HQ.out.2 (by rw [hen]; exact hr)
        rwa [hen] at q
      have c1 : s ≤ m := by omega
      have c2 : m ≤ en := by omega
      have c3 : s ≤ mid := by omega
      have c4 : en ≤ b := by omega
      have c5 : mid ≤ en := by omega
      have hen' : mid + m = en + s := by omega
      clear hen
      by_cases hR : s < m ∧ m < en
      · by_cases hF : a < s
        · by_cases hG : en < b
          · skip
            have q1 : (s : Int) < (m : Int) := by omega
            have q2 : (m : Int) < (en : Int) := by omega
            have C := rotate_any LP.out k aE zE enc g cb blk off cap s m en d0 d w0 wr R (by omega) S1.out (by omega) (by omega) (by omega) (by omega)
            rw [hN] at C
            have f1 : (a : Int) < (s : Int) := by omega
            have f2 : (s : Int) < (mid : Int) := by omega
            have g1 : (mid : Int) < (en : Int) := by omega
            have g2 : (en : Int) < (b : Int) := by omega
            go_upto_region 41 with (go_at_fn 91; refine C.mono ?_; rintro e w1 ⟨rfl, d1, r1, S2⟩)
            clear C
            have hz1 : d1.size = N := r1.sz.trans hN
            have HR : Aside (Rot d s m en d1) := r1
            have S3 : Aside (SWK enc k w0 blk off d1 w1) := S2
            clear r1 S2 S1
            obtain ⟨K1, K2, K3, K4, K5⟩ : Aside (Cutted (ltOf cf) a mid b d d1) ∧ Aside (SortedIn (ltOf cf) a s d1) ∧ Aside (SortedIn (ltOf cf) s mid d1) ∧ Aside (SortedIn (ltOf cf) mid en d1) ∧ Aside (SortedIn (ltOf cf) en b d1) := CUT.out d1 HR.out
            clear HR CUT HQ
            have C := IH.out a s mid (by omega) d1 w1 hz1 S3.out (by omega) (by omega) (by omega) K2.out K3.out
            go_upto_region 43 with (go_at_fn 87; refine C.mono ?_; rintro e w2 ⟨rfl, d2, r2, S4⟩)
            clear C
            have HM2 : Aside (Merged (ltOf cf) a mid d1 d2) := r2
            have hz2 : d2.size = N := r2.sz.trans hz1
            have S5 : Aside (SWK enc k w0 blk off d2 w2) := S4
            clear r2 S4 S3
            have K6 : Aside (SortedIn (ltOf cf) mid en d2) := srt_keep HM2.out (Nat.le_refl _) K4.out
            have K7 : Aside (SortedIn (ltOf cf) en b d2) := srt_keep HM2.out c5 K5.out
            clear K2 K3 K4 K5
            have C := IH.out mid en b (by omega) d2 w2 hz2 S5.out (by omega) (by omega) hb K6.out K7.out
            go_wp2_with (go_at_fn 87; refine C.mono ?_; rintro e w3 ⟨rfl, d3, r3, S6⟩)
            go_end0
            exact ⟨rfl, d3, K1.out.glue (by omega) (by omega) HM2.out r3, S6⟩
          · skip
            have q1 : (s : Int) < (m : Int) := by omega
            have q2 : (m : Int) < (en : Int) := by omega
            have C := rotate_any LP.out k aE zE enc g cb blk off cap s m en d0 d w0 wr R (by omega) S1.out (by omega) (by omega) (by omega) (by omega)
            rw [hN] at C
            have f1 : (a : Int) < (s : Int) := by omega
            have f2 : (s : Int) < (mid : Int) := by omega
            have g1 : (mid : Int) < (en : Int) := by omega
            have g2 : ¬ (en : Int) < (b : Int) := by omega
            go_upto_region 41 with (go_at_fn 91; refine C.mono ?_; rintro e w1 ⟨rfl, d1, r1, S2⟩)
            clear C
            have hz1 : d1.size = N := r1.sz.trans hN
            have HR : Aside (Rot d s m en d1) := r1
            have S3 : Aside (SWK enc k w0 blk off d1 w1) := S2
            clear r1 S2 S1
            obtain ⟨K1, K2, K3, K4, K5⟩ : Aside (Cutted (ltOf cf) a mid b d d1) ∧ Aside (SortedIn (ltOf cf) a s d1) ∧ Aside (SortedIn (ltOf cf) s mid d1) ∧ Aside (SortedIn (ltOf cf) mid en d1) ∧ Aside (SortedIn (ltOf cf) en b d1) := CUT.out d1 HR.out
            clear HR CUT HQ
            have C := IH.out a s mid (by omega) d1 w1 hz1 S3.out (by omega) (by omega) (by omega) K2.out K3.out
            go_upto_region 43 with (go_at_fn 87; refine C.mono ?_; rintro e w2 ⟨rfl, d2, r2, S4⟩)
            clear C
            have HM2 : Aside (Merged (ltOf cf) a mid d1 d2) := r2
            have hz2 : d2.size = N := r2.sz.trans hz1
            have S5 : Aside (SWK enc k w0 blk off d2 w2) := S4
            clear r2 S4 S3
            have K6 : Aside (SortedIn (ltOf cf) mid en d2) := srt_keep HM2.out (Nat.le_refl _) K4.out
            have K7 : Aside (SortedIn (ltOf cf) en b d2) := srt_keep HM2.out c5 K5.out
            clear K2 K3 K4 K5
            have RS : Aside (Merged (ltOf cf) mid b d2 d2) := Merged.refl (srt_join (by omega) c5 c4 K6.out K7.out)
            go_wp2_with fail
            go_end0
            exact ⟨rfl, d2, K1.out.glue (by omega) (by omega) HM2.out RS.out, S5.out⟩
        · by_cases hG : en < b
          · skip
            have q1 : (s : Int) < (m : Int) := by omega
            have q2 : (m : Int) < (en : Int) := by omega
            have C := rotate_any LP.out k aE zE enc g cb blk off cap s m en d0 d w0 wr R (by omega) S1.out (by omega) (by omega) (by omega) (by omega)
            rw [hN] at C
            have f1 : ¬ (a : Int) < (s : Int) := by omega
            have g1 : (mid : Int) < (en : Int) := by omega
            have g2 : (en : Int) < (b : Int) := by omega
            go_upto_region 41 with (go_at_fn 91; refine C.mono ?_; rintro e w1 ⟨rfl, d1, r1, S2⟩)
            clear C
            have hz1 : d1.size = N := r1.sz.trans hN
            have HR : Aside (Rot d s m en d1) := r1
            have S3 : Aside (SWK enc k w0 blk off d1 w1) := S2
            clear r1 S2 S1
            obtain ⟨K1, K2, K3, K4, K5⟩ : Aside (Cutted (ltOf cf) a mid b d d1) ∧ Aside (SortedIn (ltOf cf) a s d1) ∧ Aside (SortedIn (ltOf cf) s mid d1) ∧ Aside (SortedIn (ltOf cf) mid en d1) ∧ Aside (SortedIn (ltOf cf) en b d1) := CUT.out d1 HR.out
            clear HR CUT HQ
            have HM1 : Aside (Merged (ltOf cf) a mid d1 d1) := Merged.refl (srt_join (by omega) (by omega) c3 K2.out K3.out)
            go_upto_region 43 with fail
            obtain ⟨d2, hd2'⟩ : ∃ x, x = d1 := ⟨_, rfl⟩
            have HM2 : Aside (Merged (ltOf cf) a mid d1 d2) := by rw [hd2']; exact HM1
            have hz2 : d2.size = N := by rw [hd2']; exact hz1
            have S5 : Aside (SWK enc k w0 blk off d2 w1) := by rw [hd2']; exact S3
            clear hd2' HM1 S3
            have K6 : Aside (SortedIn (ltOf cf) mid en d2) := srt_keep HM2.out (Nat.le_refl _) K4.out
            have K7 : Aside (SortedIn (ltOf cf) en b d2) := srt_keep HM2.out c5 K5.out
            clear K2 K3 K4 K5
            have C := IH.out mid en b (by omega) d2 w1 hz2 S5.out (by omega) (by omega) hb K6.out K7.out
            go_wp2_with (go_at_fn 87; refine C.mono ?_; rintro e w3 ⟨rfl, d3, r3, S6⟩)
            go_end0
            exact ⟨rfl, d3, K1.out.glue (by omega) (by omega) HM2.out r3, S6⟩
          · skip
            have q1 : (s : Int) < (m : Int) := by omega
            have q2 : (m : Int) < (en : Int) := by omega
            have C := rotate_any LP.out k aE zE enc g cb blk off cap s m en d0 d w0 wr R (by omega) S1.out (by omega) (by omega) (by omega) (by omega)
            rw [hN] at C
            have f1 : ¬ (a : Int) < (s : Int) := by omega
            have g1 : (mid : Int) < (en : Int) := by omega
            have g2 : ¬ (en : Int) < (b : Int) := by omega
            go_upto_region 41 with (go_at_fn 91; refine C.mono ?_; rintro e w1 ⟨rfl, d1, r1, S2⟩)
            clear C
            have hz1 : d1.size = N := r1.sz.trans hN
            have HR : Aside (Rot d s m en d1) := r1
            have S3 : Aside (SWK enc k w0 blk off d1 w1) := S2
            clear r1 S2 S1
            obtain ⟨K1, K2, K3, K4, K5⟩ : Aside (Cutted (ltOf cf) a mid b d d1) ∧ Aside (SortedIn (ltOf cf) a s d1) ∧ Aside (SortedIn (ltOf cf) s mid d1) ∧ Aside (SortedIn (ltOf cf) mid en d1) ∧ Aside (SortedIn (ltOf cf) en b d1) := CUT.out d1 HR.out
            clear HR CUT HQ
            have HM1 : Aside (Merged (ltOf cf) a mid d1 d1) := Merged.refl (srt_join (by omega) (by omega) c3 K2.out K3.out)
            go_upto_region 43 with fail
            obtain ⟨d2, hd2'⟩ : ∃ x, x = d1 := ⟨_, rfl⟩
            have HM2 : Aside (Merged (ltOf cf) a mid d1 d2) := by rw [hd2']; exact HM1
            have hz2 : d2.size = N := by rw [hd2']; exact hz1
            have S5 : Aside (SWK enc k w0 blk off d2 w1) := by rw [hd2']; exact S3
            clear hd2' HM1 S3
            have K6 : Aside (SortedIn (ltOf cf) mid en d2) := srt_keep HM2.out (Nat.le_refl _) K4.out
            have K7 : Aside (SortedIn (ltOf cf) en b d2) := srt_keep HM2.out c5 K5.out
            clear K2 K3 K4 K5
            have RS : Aside (Merged (ltOf cf) mid b d2 d2) := Merged.refl (srt_join (by omega) c5 c4 K6.out K7.out)
            go_wp2_with fail
            go_end0
            exact ⟨rfl, d2, K1.out.glue (by omega) (by omega) HM2.out RS.out, S5.out⟩
      · by_cases hF : s < mid
        · skip
          have q1 : ¬ (s : Int) < (m : Int) := by omega
          have f1 : (a : Int) < (s : Int) := by omega
          have f2 : (s : Int) < (mid : Int) := by omega
          have g1 : ¬ (mid : Int) < (en : Int) := by omega
          go_upto_region 41 with fail
          obtain ⟨d1, hd1⟩ : ∃ x, x = d := ⟨_, rfl⟩
          have hz1 : d1.size = N := by rw [hd1]; exact hN
          have HR : Aside (Rot d s m en d1) := by rw [hd1]; exact Rot.same d s en (by omega) (by omega) m (by omega)
          have S3 : Aside (SWK enc k w0 blk off d1 wr) := by rw [hd1]; exact S1
          clear hd1 S1
          obtain ⟨K1, K2, K3, K4, K5⟩ : Aside (Cutted (ltOf cf) a mid b d d1) ∧ Aside (SortedIn (ltOf cf) a s d1) ∧ Aside (SortedIn (ltOf cf) s mid d1) ∧ Aside (SortedIn (ltOf cf) mid en d1) ∧ Aside (SortedIn (ltOf cf) en b d1) := CUT.out d1 HR.out
          clear HR CUT HQ
          have C := IH.out a s mid (by omega) d1 wr hz1 S3.out (by omega) (by omega) (by omega) K2.out K3.out
          go_upto_region 43 with (go_at_fn 87; refine C.mono ?_; rintro e w2 ⟨rfl, d2, r2, S4⟩)
          clear C
          have HM2 : Aside (Merged (ltOf cf) a mid d1 d2) := r2
          have hz2 : d2.size = N := r2.sz.trans hz1
          have S5 : Aside (SWK enc k w0 blk off d2 w2) := S4
          clear r2 S4 S3
          have K6 : Aside (SortedIn (ltOf cf) mid en d2) := srt_keep HM2.out (Nat.le_refl _) K4.out
          have K7 : Aside (SortedIn (ltOf cf) en b d2) := srt_keep HM2.out c5 K5.out
          clear K2 K3 K4 K5
          have RS : Aside (Merged (ltOf cf) mid b d2 d2) := Merged.refl (srt_join (by omega) c5 c4 K6.out K7.out)
          go_wp2_with fail
          go_end0
          exact ⟨rfl, d2, K1.out.glue (by omega) (by omega) HM2.out RS.out, S5.out⟩
        · skip
          have q1 : ¬ (s : Int) < (m : Int) := by omega
          have f1 : (a : Int) < (s : Int) := by omega
          have f2 : ¬ (s : Int) < (mid : Int) := by omega
          have g1 : ¬ (mid : Int) < (en : Int) := by omega
          go_upto_region 41 with fail
          obtain ⟨d1, hd1⟩ : ∃ x, x = d := ⟨_, rfl⟩
          have hz1 : d1.size = N := by rw [hd1]; exact hN
          have HR : Aside (Rot d s m en d1) := by rw [hd1]; exact Rot.same d s en (by omega) (by omega) m (by omega)
          have S3 : Aside (SWK enc k w0 blk off d1 wr) := by rw [hd1]; exact S1
          clear hd1 S1
          obtain ⟨K1, K2, K3, K4, K5⟩ : Aside (Cutted (ltOf cf) a mid b d d1) ∧ Aside (SortedIn (ltOf cf) a s d1) ∧ Aside (SortedIn (ltOf cf) s mid d1) ∧ Aside (SortedIn (ltOf cf) mid en d1) ∧ Aside (SortedIn (ltOf cf) en b d1) := CUT.out d1 HR.out
          clear HR CUT HQ
          have HM1 : Aside (Merged (ltOf cf) a mid d1 d1) := Merged.refl (srt_join (by omega) (by omega) c3 K2.out K3.out)
          go_upto_region 43 with fail
          obtain ⟨d2, hd2'⟩ : ∃ x, x = d1 := ⟨_, rfl⟩
          have HM2 : Aside (Merged (ltOf cf) a mid d1 d2) := by rw [hd2']; exact HM1
          have hz2 : d2.size = N := by rw [hd2']; exact hz1
          have S5 : Aside (SWK enc k w0 blk off d2 wr) := by rw [hd2']; exact S3
          clear hd2' HM1 S3
          have K6 : Aside (SortedIn (ltOf cf) mid en d2) := srt_keep HM2.out (Nat.le_refl _) K4.out
          have K7 : Aside (SortedIn (ltOf cf) en b d2) := srt_keep HM2.out c5 K5.out
          clear K2 K3 K4 K5
          have RS : Aside (Merged (ltOf cf) mid b d2 d2) := Merged.refl (srt_join (by omega) c5 c4 K6.out K7.out)
          go_wp2_with fail
          go_end0
          exact ⟨rfl, d2, K1.out.glue (by omega) (by omega) HM2.out RS.out, S5.out⟩

theorem symMerge_any (L : StP P) (k : Nat) (aE : ∀ w, (isAgg 50).run P w = .ok true w) (zE : ∀ w, (Go.sizeOf 50).run P w = .ok k w) (enc : α → List Value) (cf : α → α → Int) (hO : SWO (ltOf cf)) (g : Nat) (cb : Array Value) (blk off cap N : Nat) (d0 : Array α) (w0 : World)
      (eg : ∀ args w, (callFunc g args).run P w = .ok (.enter g args) w) (hcmp : CmpLays P g cb enc k cf blk off d0.size w0) (R : RowK enc k w0 blk off d0) (hs : d0.size = N) (hsz : N < 4611686018427387904) :
      ∀ n a m b, b - a ≤ n → SymC P enc k cf g cb blk off cap N w0 a m b
  | 0, a, m, b, hn => fun d w _ _ h1 h2 => by omega
  | n + 1, a, m, b, hn => fun d w hd S h1 h2 hb hA hB => by
      by_cases c1 : a + 1 = m
      · have := sym_left L k aE zE enc cf hO g cb blk off cap a m b d0 d w0 w eg hcmp R (by omega) S c1 h2 (by omega) (by omega) hB
        rwa [hd] at this
      · by_cases c2 : m + 1 = b
        · have := sym_right L k aE zE enc cf hO g cb blk off cap a m b d0 d w0 w eg hcmp R (by omega) S (by omega) c2 (by omega) (by omega) hA
          rwa [hd] at this
        · by_cases c3 : (a + b) / 2 < m
          · exact sym_genA L k aE zE enc cf hO g cb blk off cap N a m b d0 d w0 w eg hcmp R hs hd S (by omega) (by omega) hb hsz hA hB c3 fun a' m' b' h' => symMerge_any L k aE zE enc cf hO g cb blk off cap N d0 w0 eg hcmp R hs hsz n a' m' b' (by omega)
          · exact sym_genB L k aE zE enc cf hO g cb blk off cap N a m b d0 d w0 w eg hcmp R hs hd S (by omega) (by omega) hb hsz hA hB c3 fun a' m' b' h' => symMerge_any L k aE zE enc cf hO g cb blk off cap N d0 w0 eg hcmp R hs hsz n a' m' b' (by omega)

end Go.Proofs.Ytifeeneojlhffaa

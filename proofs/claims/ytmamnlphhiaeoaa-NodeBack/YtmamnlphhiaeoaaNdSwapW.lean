/-
  The walk of package node's Swap.
-/
import Derived.Test.YtmamnlphhiaeoaaNdSwap
namespace Go.Proofs.Ytmamnlphhiaeoaa
open Go.Shelf Go.RowKit Go.Lib Go.Sort
attribute [local go_sem ↓] Go.wp_at_zero Go.wp_at_succ
set_option linter.unusedVariables false

/-- What holds between the operations of the region. -/
def JSwap (W : World) (p fr tr fa ta no : Nat) (ae ak az ao ay : Option Addr) (ce ck cz co cy : Nat) (es : List En) (ks kk : List Int) (ss yy : List ByteArray) (y6 y7 y8 y9 y13 y14 y15 y16 y17 y18 y19 y20 y21 y22 y23 y24 y25 y26 y27 y28 y29 y30 y31 y32 y33 y34 y35 y36 y37 y38 y39 y40 y41 y42 y43 y44 y45 y46 y47 y48 y49 y50 y51 y52 y53 y54 y55 : Value) (f : List Bool) (a : Act) (w : World) : Prop :=
  ∃ f0 f1 f2 f3 f4 f5 f6 f7 f8 f9 f10 f11 f12 f13 f14 f15 f16 f17 : Bool, f = [f0, f1, f2, f3, f4, f5, f6, f7, f8, f9, f10, f11, f12, f13, f14, f15, f16, f17] ∧ f17 = false ∧ ∃ x56 x57 x58 x59 x60 x61 x62 x63 x64 x65 x66 x67 x68 x69 x70 x71 x72 : Value,
    a = { tmps := #[.agg #[.bool false, .slice ae es.length ce, .slice ak ks.length ck, .slice az ss.length cz], .int .i64 fr, .int .i64 tr, .slice ao no co, .slice ay yy.length cy, .pointer (some ⟨p, 0, none⟩), y6, y7, y8, y9, .pointer (some ⟨p + 1, 0, none⟩), .int .i64 fa, .int .i64 ta, y13, y14, y15, y16, y17, y18, y19, y20, y21, y22, y23, y24, y25, y26, y27, y28, y29, y30, y31, y32, y33, y34, y35, y36, y37, y38, y39, y40, y41, y42, y43, y44, y45, y46, y47, y48, y49, y50, y51, y52, y53, y54, y55, x56, x57, x58, x59, x60, x61, x62, x63, x64, x65, x66, x67, x68, x69, x70, x71, x72], defers := [] } ∧ RB W (p + 1) 26 w ∧
    Hid (f0 = true → x56 = .pointer (some ⟨p, 1, none⟩)) ∧
    Hid (f1 = true → x57 = .slice ae es.length ce) ∧
    Hid (f2 = true → ∃ qq, x58 = .slice (some ⟨qq, 0, none⟩) 1 1 ∧ Cl w qq #[.slice ae es.length ce] 22) ∧
    Hid (f3 = true → ∃ ao n c, x59 = .slice ao n c ∧ OwnP (p + 2) w x59 (es)) ∧
    Hid (f4 = true → x60 = .pointer (some ⟨p, 2, none⟩)) ∧
    Hid (f5 = true → x61 = .slice ak ks.length ck) ∧
    Hid (f6 = true → x62 = .int .i64 fr) ∧
    Hid (f7 = true → x63 = .int .i64 tr) ∧
    Hid (f8 = true → x64 = .slice ao no co) ∧
    Hid (f9 = true → ∃ ao n c, x65 = .slice ao n c ∧ OwnI (p + 2) w x65 (rpL ks fr tr kk)) ∧
    Hid (f10 = true → x66 = .pointer (some ⟨p, 3, none⟩)) ∧
    Hid (f11 = true → x67 = .slice az ss.length cz) ∧
    Hid (f12 = true → x68 = .int .i64 fa) ∧
    Hid (f13 = true → x69 = .int .i64 ta) ∧
    Hid (f14 = true → x70 = .slice ay yy.length cy) ∧
    Hid (f15 = true → ∃ ao n c, x71 = .slice ao n c ∧ OwnS (p + 2) w x71 (rpL ss fa ta yy)) ∧
    Hid (f16 = true → f3 = true ∧ f9 = true ∧ f15 = true ∧ x72 = .agg #[.bool false, x59, x65, x71])
theorem JSwap.elim {W : World} {p fr tr fa ta no : Nat} {ae ak az ao ay : Option Addr} {ce ck cz co cy : Nat} {es : List En} {ks kk : List Int} {ss yy : List ByteArray} {y6 y7 y8 y9 y13 y14 y15 y16 y17 y18 y19 y20 y21 y22 y23 y24 y25 y26 y27 y28 y29 y30 y31 y32 y33 y34 y35 y36 y37 y38 y39 y40 y41 y42 y43 y44 y45 y46 y47 y48 y49 y50 y51 y52 y53 y54 y55 : Value} {f : List Bool} {a : Act} {w : World} {C : List Bool → Act → World → Prop} (h : JSwap W p fr tr fa ta no ae ak az ao ay ce ck cz co cy es ks kk ss yy y6 y7 y8 y9 y13 y14 y15 y16 y17 y18 y19 y20 y21 y22 y23 y24 y25 y26 y27 y28 y29 y30 y31 y32 y33 y34 y35 y36 y37 y38 y39 y40 y41 y42 y43 y44 y45 y46 y47 y48 y49 y50 y51 y52 y53 y54 y55 f a w)
    (k : ∀ (f0 f1 f2 f3 f4 f5 f6 f7 f8 f9 f10 f11 f12 f13 f14 f15 f16 f17 : Bool) (x56 x57 x58 x59 x60 x61 x62 x63 x64 x65 x66 x67 x68 x69 x70 x71 x72 : Value), f17 = false → RB W (p + 1) 26 w →
      Hid (f0 = true → x56 = .pointer (some ⟨p, 1, none⟩)) →
      Hid (f1 = true → x57 = .slice ae es.length ce) →
      Hid (f2 = true → ∃ qq, x58 = .slice (some ⟨qq, 0, none⟩) 1 1 ∧ Cl w qq #[.slice ae es.length ce] 22) →
      Hid (f3 = true → ∃ ao n c, x59 = .slice ao n c ∧ OwnP (p + 2) w x59 (es)) →
      Hid (f4 = true → x60 = .pointer (some ⟨p, 2, none⟩)) →
      Hid (f5 = true → x61 = .slice ak ks.length ck) →
      Hid (f6 = true → x62 = .int .i64 fr) →
      Hid (f7 = true → x63 = .int .i64 tr) →
      Hid (f8 = true → x64 = .slice ao no co) →
      Hid (f9 = true → ∃ ao n c, x65 = .slice ao n c ∧ OwnI (p + 2) w x65 (rpL ks fr tr kk)) →
      Hid (f10 = true → x66 = .pointer (some ⟨p, 3, none⟩)) →
      Hid (f11 = true → x67 = .slice az ss.length cz) →
      Hid (f12 = true → x68 = .int .i64 fa) →
      Hid (f13 = true → x69 = .int .i64 ta) →
      Hid (f14 = true → x70 = .slice ay yy.length cy) →
      Hid (f15 = true → ∃ ao n c, x71 = .slice ao n c ∧ OwnS (p + 2) w x71 (rpL ss fa ta yy)) →
      Hid (f16 = true → f3 = true ∧ f9 = true ∧ f15 = true ∧ x72 = .agg #[.bool false, x59, x65, x71]) →
      C [f0, f1, f2, f3, f4, f5, f6, f7, f8, f9, f10, f11, f12, f13, f14, f15, f16, f17] { tmps := #[.agg #[.bool false, .slice ae es.length ce, .slice ak ks.length ck, .slice az ss.length cz], .int .i64 fr, .int .i64 tr, .slice ao no co, .slice ay yy.length cy, .pointer (some ⟨p, 0, none⟩), y6, y7, y8, y9, .pointer (some ⟨p + 1, 0, none⟩), .int .i64 fa, .int .i64 ta, y13, y14, y15, y16, y17, y18, y19, y20, y21, y22, y23, y24, y25, y26, y27, y28, y29, y30, y31, y32, y33, y34, y35, y36, y37, y38, y39, y40, y41, y42, y43, y44, y45, y46, y47, y48, y49, y50, y51, y52, y53, y54, y55, x56, x57, x58, x59, x60, x61, x62, x63, x64, x65, x66, x67, x68, x69, x70, x71, x72], defers := [] } w) : C f a w :=
  let ⟨f0, f1, f2, f3, f4, f5, f6, f7, f8, f9, f10, f11, f12, f13, f14, f15, f16, f17, ef, e, x56, x57, x58, x59, x60, x61, x62, x63, x64, x65, x66, x67, x68, x69, x70, x71, x72, ea, hB, h0, h1, h2, h3, h4, h5, h6, h7, h8, h9, h10, h11, h12, h13, h14, h15, h16⟩ := h
  ef ▸ ea ▸ k f0 f1 f2 f3 f4 f5 f6 f7 f8 f9 f10 f11 f12 f13 f14 f15 f16 f17 x56 x57 x58 x59 x60 x61 x62 x63 x64 x65 x66 x67 x68 x69 x70 x71 x72 e hB h0 h1 h2 h3 h4 h5 h6 h7 h8 h9 h10 h11 h12 h13 h14 h15 h16

set_option maxHeartbeats 8000000 in
set_option maxRecDepth 100000 in
theorem swap_g0 (es : List En) (ks kk : List Int) (ss yy : List ByteArray) (fr tr : Nat) (ve vk vs vo vy : Value) (w : World) (he : Row encP 2 w ve es) (hk : Row encI 1 w vk ks) (hss : Row encS 1 w vs ss) (hkk : Row encI 1 w vo kk) (hyy : Row encS 1 w vy yy)
    (s1 : es.length ≤ 1000) (s2 : ks.length ≤ 1000) (s3 : ss.length ≤ 1000) (s4 : kk.length ≤ 1000) (s5 : yy.length ≤ 1000) (hft : fr < tr) (htk : tr ≤ ks.length) (hyk : (yy.length : Int) = max ((kk.length : Int) - 1) 0) (ta : Nat) (g : 0 < kk.length) (ht1 : ta = tr - 1) :
    Calls Try.prog 26 #[.agg #[.bool false, ve, vk, vs], .int .i64 fr, .int .i64 tr, vo, vy] w (GvN w ⟨false, es, rpL ks fr tr kk, rpL ss fr ta yy⟩) := by
  obtain ⟨ae, ce, rfl, _⟩ := rowShape he
  obtain ⟨ak, ck, rfl, _⟩ := rowShape hk
  obtain ⟨az, cz, rfl, _⟩ := rowShape hss
  obtain ⟨ao, co, rfl, _⟩ := rowShape hkk
  obtain ⟨ay, cy, rfl, _⟩ := rowShape hyy
  have K1 : Cl ((w.alloc (.cells #[.bool false, .slice ae es.length ce, .slice ak ks.length ck, .slice az ss.length cz] 26)).alloc (.cells #[.bool false, .slice none 0 0, .slice none 0 0, .slice none 0 0] 26)) w.heap.size #[.bool false, .slice ae es.length ce, .slice ak ks.length ck, .slice az ss.length cz] 26 := (Cl.new0 _ _ _).alloc _
  have K2 : Cl ((w.alloc (.cells #[.bool false, .slice ae es.length ce, .slice ak ks.length ck, .slice az ss.length cz] 26)).alloc (.cells #[.bool false, .slice none 0 0, .slice none 0 0, .slice none 0 0] 26)) (w.heap.size + 1) #[.bool false, .slice none 0 0, .slice none 0 0, .slice none 0 0] 26 := Cl.new1 _ _ _ _
  have BW : Hid (Below w.heap.size w ((w.alloc (.cells #[.bool false, .slice ae es.length ce, .slice ak ks.length ck, .slice az ss.length cz] 26)).alloc (.cells #[.bool false, .slice none 0 0, .slice none 0 0, .slice none 0 0] 26))) := belAlloc _ (belAlloc _ (Below.refl _ _))
  have gz : (0 : Int) < (kk.length : Int) := by omega
  have e2 : (ta : Int) = (tr : Int) - 1 := by omega
  have q1 : ¬ (fr : Int) < 0 := by omega
  have q2 : ¬ (ks.length : Int) < (tr : Int) := by omega
  have q3 : ¬ (tr : Int) ≤ (fr : Int) := by omega
  have q4 : ((yy.length : Int) != max ((kk.length : Int) - 1) 0) = false := by rw [bne_eq_false_iff_eq]; exact hyk
  generalize hlo : kk.length = no at *
  clear hyk
  go_enter Try.func26, Try.ntmps26
  go_upto_region 1 with fail
  generalize ((w.alloc (.cells #[.bool false, .slice ae es.length ce, .slice ak ks.length ck, .slice az ss.length cz] 26)).alloc (.cells #[.bool false, .slice none 0 0, .slice none 0 0, .slice none 0 0] 26)) = W at *
  obtain ⟨p, hp⟩ : ∃ p, w.heap.size = p := ⟨_, rfl⟩
  rw [hp] at K1 K2 BW ⊢
  obtain ⟨c0, c1, c2, c3⟩ := K1.four
  have lw := K2.lt
  have R0 : Hid (RB W (p + 1) 26 W.drew) := ⟨(Below.refl _ W).drew, _, _, _, _, K2⟩
  have BX : ∀ X, RB W (p + 1) 26 X → Below p w X := fun X hX => BW.out.trans (hX.1.mono (Nat.le_succ p))
  have RE : Hid (∀ X, RB W (p + 1) 26 X → Row encP 2 X (.slice ae es.length ce) es) := fun X hX => he.below (by rw [hp]; exact BX X hX)
  have RK : Hid (∀ X, RB W (p + 1) 26 X → Row encI 1 X (.slice ak ks.length ck) ks) := fun X hX => hk.below (by rw [hp]; exact BX X hX)
  have RS : Hid (∀ X, RB W (p + 1) 26 X → Row encS 1 X (.slice az ss.length cz) ss) := fun X hX => hss.below (by rw [hp]; exact BX X hX)
  have RO : Hid (∀ X, RB W (p + 1) 26 X → Row encI 1 X (.slice ao no co) kk) := fun X hX => hkk.below (by rw [hp]; exact BX X hX)
  have RY : Hid (∀ X, RB W (p + 1) 26 X → Row encS 1 X (.slice ay yy.length cy) yy) := fun X hX => hyy.below (by rw [hp]; exact BX X hX)
  have MK : Hid (∀ X, RB W (p + 1) 26 X → X.cell? ⟨p, 0, none⟩ = some (.bool false) ∧ X.cell? ⟨p, 1, none⟩ = some (.slice ae es.length ce) ∧ X.cell? ⟨p, 2, none⟩ = some (.slice ak ks.length ck) ∧ X.cell? ⟨p, 3, none⟩ = some (.slice az ss.length cz)) := fun X hX => (K1.below hX.1 (Nat.lt_succ_self p)).four
  have HBX : Hid (∀ X, RB W (p + 1) 26 X → Below p w X) := BX
  have HLO : Hid (kk.length = no) := hlo
  have HP : Hid (w.heap.size = p) := hp
  clear he hk hss hkk hyy K1 K2 BW BX hlo hp
  go_upto_region 8 with fail
  (try rw [← e1])
  (try rw [← e2])
  have bfa : fr ≤ 1000 := by omega
  have bta : ta ≤ 1000 := by omega
  have hlo := HLO.out
  clear e2 ht1 gz g q1 q2 q3 q4
  have hp := HP.out
  clear c0 c1 c2 c3
  refine region_inv 17 (JSwap W p fr tr fr ta no ae ak az ao ay ce ck cz co cy es ks kk ss yy _ _ _ _ _ _ _ _ _ _ _ _ _ _ _ _ _ _ _ _ _ _ _ _ _ _ _ _ _ _ _ _ _ _ _ _ _ _ _ _ _ _ _ _ _ _ _) (by kernel_rfl) (by kernel_rfl) (by kernel_rfl) ⟨false, false, false, false, false, false, false, false, false, false, false, false, false, false, false, false, false, false, rfl, rfl, _, _, _, _, _, _, _, _, _, _, _, _, _, _, _, _, _, rfl, R0.out, (fun h => by cases h), (fun h => by cases h), (fun h => by cases h), (fun h => by cases h), (fun h => by cases h), (fun h => by cases h), (fun h => by cases h), (fun h => by cases h), (fun h => by cases h), (fun h => by cases h), (fun h => by cases h), (fun h => by cases h), (fun h => by cases h), (fun h => by cases h), (fun h => by cases h), (fun h => by cases h), (fun h => by cases h)⟩ ?_ ?_ ?_
  · intro i f a w' hne hl hJ
    refine JSwap.elim hJ (C := fun f a w' => i ∈ Region.ready .any _ f.toArray → wpOp _ _ _ i (fun a' w'' => JSwap W p fr tr fr ta no ae ak az ao ay ce ck cz co cy es ks kk ss yy _ _ _ _ _ _ _ _ _ _ _ _ _ _ _ _ _ _ _ _ _ _ _ _ _ _ _ _ _ _ _ _ _ _ _ _ _ _ _ _ _ _ _ _ _ _ _ (f.set i true) a' w'') a w') ?_
    clear hJ hl f a
    intro f0 f1 f2 f3 f4 f5 f6 f7 f8 f9 f10 f11 f12 f13 f14 f15 f16 f17 x56 x57 x58 x59 x60 x61 x62 x63 x64 x65 x66 x67 x68 x69 x70 x71 x72 e17 hB h0 h1 h2 h3 h4 h5 h6 h7 h8 h9 h10 h11 h12 h13 h14 h15 h16 hi
    obtain ⟨hlt, hun, _⟩ := ready_mem hi
    have hlt' : i < 18 := hlt
    clear hlt
    rcases (by omega : i = 0 ∨ i = 1 ∨ i = 2 ∨ i = 3 ∨ i = 4 ∨ i = 5 ∨ i = 6 ∨ i = 7 ∨ i = 8 ∨ i = 9 ∨ i = 10 ∨ i = 11 ∨ i = 12 ∨ i = 13 ∨ i = 14 ∨ i = 15 ∨ i = 16) with rfl | rfl | rfl | rfl | rfl | rfl | rfl | rfl | rfl | rfl | rfl | rfl | rfl | rfl | rfl | rfl | rfl
    · have un : f0 = false := hun
      clear hun
      clear hi hne hlt'
      refine wpOp_step rfl (fun K hK => ?_)
      have HK : Shut _ := hK
      clear hK
      go_simp
      refine HK.out _ _ ?_
      exact ⟨true, f1, f2, f3, f4, f5, f6, f7, f8, f9, f10, f11, f12, f13, f14, f15, f16, f17, rfl, e17, _, _, _, _, _, _, _, _, _, _, _, _, _, _, _, _, _, rfl, hB, (fun _ => rfl), h1, h2, h3, h4, h5, h6, h7, h8, h9, h10, h11, h12, h13, h14, h15, h16⟩
    · have un : f1 = false := hun
      clear hun
      have d0 : f0 = true := ready_dep 0 hi (by kernel_rfl)
      have y0 := h0.out d0
      subst y0
      clear hi hne hlt'
      have cell := (MK.out _ hB).2.1
      refine wpOp_step rfl (fun K hK => ?_)
      have HK : Shut _ := hK
      clear hK
      go_simp
      refine HK.out _ _ ?_
      exact ⟨f0, true, f2, f3, f4, f5, f6, f7, f8, f9, f10, f11, f12, f13, f14, f15, f16, f17, rfl, e17, _, _, _, _, _, _, _, _, _, _, _, _, _, _, _, _, _, rfl, hB, h0, (fun _ => rfl), h2, h3, h4, h5, h6, h7, h8, h9, h10, h11, h12, h13, h14, h15, h16⟩
    · have un : f2 = false := hun
      clear hun
      have d1 : f1 = true := ready_dep 1 hi (by kernel_rfl)
      have y1 := h1.out d1
      subst y1
      clear hi hne hlt'
      refine wpOp_step rfl (fun K hK => ?_)
      have HK : Shut _ := hK
      clear hK
      go_simp
      refine HK.out _ _ ?_
      exact ⟨f0, f1, true, f3, f4, f5, f6, f7, f8, f9, f10, f11, f12, f13, f14, f15, f16, f17, rfl, e17, _, _, _, _, _, _, _, _, _, _, _, _, _, _, _, _, _, rfl, RB.alloc hB _, h0, h1, (fun _ => ⟨_, rfl, Cl.new _ _ _⟩), (fun d => let ⟨ao, n, c, e, o⟩ := h3.out d; ⟨ao, n, c, e, ownsRow_below o (belAlloc _ (Below.refl _ _))⟩), h4, h5, h6, h7, h8, (fun d => let ⟨ao, n, c, e, o⟩ := h9.out d; ⟨ao, n, c, e, ownsRow_below o (belAlloc _ (Below.refl _ _))⟩), h10, h11, h12, h13, h14, (fun d => let ⟨ao, n, c, e, o⟩ := h15.out d; ⟨ao, n, c, e, ownsRow_below o (belAlloc _ (Below.refl _ _))⟩), h16⟩
    · have un : f3 = false := hun
      clear hun
      have d2 : f2 = true := ready_dep 2 hi (by kernel_rfl)
      obtain ⟨q2, y2, c2⟩ := h2.out d2
      subst y2
      clear hi hne hlt'
      refine wpOp_step rfl (fun K hK => ?_)
      have HK : Shut _ := hK
      clear hK
      go_simp
      refine Calls.mono (joinedE1 q2 22 (.slice ae es.length ce) es w' c2 (RE.out _ hB) (by omega)) ?_
      rintro e w1 ⟨ao, nn, cc, rfl, ow, b1⟩
      refine HK.out _ _ ?_
      exact ⟨f0, f1, f2, true, f4, f5, f6, f7, f8, f9, f10, f11, f12, f13, f14, f15, f16, f17, rfl, e17, _, _, _, _, _, _, _, _, _, _, _, _, _, _, _, _, _, rfl, RB.call hB b1, h0, h1, (fun d => let ⟨q, e, c⟩ := h2.out d; ⟨q, e, Cl.on c (b1)⟩), (fun _ => ⟨ao, nn, cc, rfl, ownMono ow (RB.lt hB)⟩), h4, h5, h6, h7, h8, (fun d => let ⟨ao, n, c, e, o⟩ := h9.out d; ⟨ao, n, c, e, ownsRow_below o (b1)⟩), h10, h11, h12, h13, h14, (fun d => let ⟨ao, n, c, e, o⟩ := h15.out d; ⟨ao, n, c, e, ownsRow_below o (b1)⟩), (fun d => by have e := (h16.out d).1; rw [un] at e; cases e)⟩
    · have un : f4 = false := hun
      clear hun
      clear hi hne hlt'
      refine wpOp_step rfl (fun K hK => ?_)
      have HK : Shut _ := hK
      clear hK
      go_simp
      refine HK.out _ _ ?_
      exact ⟨f0, f1, f2, f3, true, f5, f6, f7, f8, f9, f10, f11, f12, f13, f14, f15, f16, f17, rfl, e17, _, _, _, _, _, _, _, _, _, _, _, _, _, _, _, _, _, rfl, hB, h0, h1, h2, h3, (fun _ => rfl), h5, h6, h7, h8, h9, h10, h11, h12, h13, h14, h15, h16⟩
    · have un : f5 = false := hun
      clear hun
      have d4 : f4 = true := ready_dep 4 hi (by kernel_rfl)
      have y4 := h4.out d4
      subst y4
      clear hi hne hlt'
      have cell := (MK.out _ hB).2.2.1
      refine wpOp_step rfl (fun K hK => ?_)
      have HK : Shut _ := hK
      clear hK
      go_simp
      refine HK.out _ _ ?_
      exact ⟨f0, f1, f2, f3, f4, true, f6, f7, f8, f9, f10, f11, f12, f13, f14, f15, f16, f17, rfl, e17, _, _, _, _, _, _, _, _, _, _, _, _, _, _, _, _, _, rfl, hB, h0, h1, h2, h3, h4, (fun _ => rfl), h6, h7, h8, h9, h10, h11, h12, h13, h14, h15, h16⟩
    · have un : f6 = false := hun
      clear hun
      clear hi hne hlt'
      refine wpOp_step rfl (fun K hK => ?_)
      have HK : Shut _ := hK
      clear hK
      go_simp
      refine HK.out _ _ ?_
      exact ⟨f0, f1, f2, f3, f4, f5, true, f7, f8, f9, f10, f11, f12, f13, f14, f15, f16, f17, rfl, e17, _, _, _, _, _, _, _, _, _, _, _, _, _, _, _, _, _, rfl, hB, h0, h1, h2, h3, h4, h5, (fun _ => rfl), h7, h8, h9, h10, h11, h12, h13, h14, h15, h16⟩
    · have un : f7 = false := hun
      clear hun
      clear hi hne hlt'
      refine wpOp_step rfl (fun K hK => ?_)
      have HK : Shut _ := hK
      clear hK
      go_simp
      refine HK.out _ _ ?_
      exact ⟨f0, f1, f2, f3, f4, f5, f6, true, f8, f9, f10, f11, f12, f13, f14, f15, f16, f17, rfl, e17, _, _, _, _, _, _, _, _, _, _, _, _, _, _, _, _, _, rfl, hB, h0, h1, h2, h3, h4, h5, h6, (fun _ => rfl), h8, h9, h10, h11, h12, h13, h14, h15, h16⟩
    · have un : f8 = false := hun
      clear hun
      clear hi hne hlt'
      refine wpOp_step rfl (fun K hK => ?_)
      have HK : Shut _ := hK
      clear hK
      go_simp
      refine HK.out _ _ ?_
      exact ⟨f0, f1, f2, f3, f4, f5, f6, f7, true, f9, f10, f11, f12, f13, f14, f15, f16, f17, rfl, e17, _, _, _, _, _, _, _, _, _, _, _, _, _, _, _, _, _, rfl, hB, h0, h1, h2, h3, h4, h5, h6, h7, (fun _ => rfl), h9, h10, h11, h12, h13, h14, h15, h16⟩
    · have un : f9 = false := hun
      clear hun
      have d5 : f5 = true := ready_dep 5 hi (by kernel_rfl)
      have y5 := h5.out d5
      subst y5
      have d6 : f6 = true := ready_dep 6 hi (by kernel_rfl)
      have y6 := h6.out d6
      subst y6
      have d7 : f7 = true := ready_dep 7 hi (by kernel_rfl)
      have y7 := h7.out d7
      subst y7
      have d8 : f8 = true := ready_dep 8 hi (by kernel_rfl)
      have y8 := h8.out d8
      subst y8
      clear hi hne hlt'
      refine wpOp_step rfl (fun K hK => ?_)
      have HK : Shut _ := hK
      clear hK
      go_simp
      refine Calls.mono (replacedI (.slice ak ks.length ck) (.slice ao no co) ks kk fr tr w' (RK.out _ hB) (RO.out _ hB) (by omega) (by omega) (by omega) (by omega)) ?_
      rintro e w1 ⟨ao, nn, cc, rfl, ow, b1⟩
      refine HK.out _ _ ?_
      exact ⟨f0, f1, f2, f3, f4, f5, f6, f7, f8, true, f10, f11, f12, f13, f14, f15, f16, f17, rfl, e17, _, _, _, _, _, _, _, _, _, _, _, _, _, _, _, _, _, rfl, RB.call hB b1, h0, h1, (fun d => let ⟨q, e, c⟩ := h2.out d; ⟨q, e, Cl.on c (b1)⟩), (fun d => let ⟨ao, n, c, e, o⟩ := h3.out d; ⟨ao, n, c, e, ownsRow_below o (b1)⟩), h4, h5, h6, h7, h8, (fun _ => ⟨ao, nn, cc, rfl, ownMono ow (RB.lt hB)⟩), h10, h11, h12, h13, h14, (fun d => let ⟨ao, n, c, e, o⟩ := h15.out d; ⟨ao, n, c, e, ownsRow_below o (b1)⟩), (fun d => by have e := (h16.out d).2.1; rw [un] at e; cases e)⟩
    · have un : f10 = false := hun
      clear hun
      clear hi hne hlt'
      refine wpOp_step rfl (fun K hK => ?_)
      have HK : Shut _ := hK
      clear hK
      go_simp
      refine HK.out _ _ ?_
      exact ⟨f0, f1, f2, f3, f4, f5, f6, f7, f8, f9, true, f11, f12, f13, f14, f15, f16, f17, rfl, e17, _, _, _, _, _, _, _, _, _, _, _, _, _, _, _, _, _, rfl, hB, h0, h1, h2, h3, h4, h5, h6, h7, h8, h9, (fun _ => rfl), h11, h12, h13, h14, h15, h16⟩
    · have un : f11 = false := hun
      clear hun
      have d10 : f10 = true := ready_dep 10 hi (by kernel_rfl)
      have y10 := h10.out d10
      subst y10
      clear hi hne hlt'
      have cell := (MK.out _ hB).2.2.2
      refine wpOp_step rfl (fun K hK => ?_)
      have HK : Shut _ := hK
      clear hK
      go_simp
      refine HK.out _ _ ?_
      exact ⟨f0, f1, f2, f3, f4, f5, f6, f7, f8, f9, f10, true, f12, f13, f14, f15, f16, f17, rfl, e17, _, _, _, _, _, _, _, _, _, _, _, _, _, _, _, _, _, rfl, hB, h0, h1, h2, h3, h4, h5, h6, h7, h8, h9, h10, (fun _ => rfl), h12, h13, h14, h15, h16⟩
    · have un : f12 = false := hun
      clear hun
      clear hi hne hlt'
      refine wpOp_step rfl (fun K hK => ?_)
      have HK : Shut _ := hK
      clear hK
      go_simp
      refine HK.out _ _ ?_
      exact ⟨f0, f1, f2, f3, f4, f5, f6, f7, f8, f9, f10, f11, true, f13, f14, f15, f16, f17, rfl, e17, _, _, _, _, _, _, _, _, _, _, _, _, _, _, _, _, _, rfl, hB, h0, h1, h2, h3, h4, h5, h6, h7, h8, h9, h10, h11, (fun _ => rfl), h13, h14, h15, h16⟩
    · have un : f13 = false := hun
      clear hun
      clear hi hne hlt'
      refine wpOp_step rfl (fun K hK => ?_)
      have HK : Shut _ := hK
      clear hK
      go_simp
      refine HK.out _ _ ?_
      exact ⟨f0, f1, f2, f3, f4, f5, f6, f7, f8, f9, f10, f11, f12, true, f14, f15, f16, f17, rfl, e17, _, _, _, _, _, _, _, _, _, _, _, _, _, _, _, _, _, rfl, hB, h0, h1, h2, h3, h4, h5, h6, h7, h8, h9, h10, h11, h12, (fun _ => rfl), h14, h15, h16⟩
    · have un : f14 = false := hun
      clear hun
      clear hi hne hlt'
      refine wpOp_step rfl (fun K hK => ?_)
      have HK : Shut _ := hK
      clear hK
      go_simp
      refine HK.out _ _ ?_
      exact ⟨f0, f1, f2, f3, f4, f5, f6, f7, f8, f9, f10, f11, f12, f13, true, f15, f16, f17, rfl, e17, _, _, _, _, _, _, _, _, _, _, _, _, _, _, _, _, _, rfl, hB, h0, h1, h2, h3, h4, h5, h6, h7, h8, h9, h10, h11, h12, h13, (fun _ => rfl), h15, h16⟩
    · have un : f15 = false := hun
      clear hun
      have d11 : f11 = true := ready_dep 11 hi (by kernel_rfl)
      have y11 := h11.out d11
      subst y11
      have d12 : f12 = true := ready_dep 12 hi (by kernel_rfl)
      have y12 := h12.out d12
      subst y12
      have d13 : f13 = true := ready_dep 13 hi (by kernel_rfl)
      have y13 := h13.out d13
      subst y13
      have d14 : f14 = true := ready_dep 14 hi (by kernel_rfl)
      have y14 := h14.out d14
      subst y14
      clear hi hne hlt'
      refine wpOp_step rfl (fun K hK => ?_)
      have HK : Shut _ := hK
      clear hK
      go_simp
      refine Calls.mono (replacedS (.slice az ss.length cz) (.slice ay yy.length cy) ss yy fr ta w' (RS.out _ hB) (RY.out _ hB) (by omega) (by omega) (by omega) (by omega)) ?_
      rintro e w1 ⟨ao, nn, cc, rfl, ow, b1⟩
      refine HK.out _ _ ?_
      exact ⟨f0, f1, f2, f3, f4, f5, f6, f7, f8, f9, f10, f11, f12, f13, f14, true, f16, f17, rfl, e17, _, _, _, _, _, _, _, _, _, _, _, _, _, _, _, _, _, rfl, RB.call hB b1, h0, h1, (fun d => let ⟨q, e, c⟩ := h2.out d; ⟨q, e, Cl.on c (b1)⟩), (fun d => let ⟨ao, n, c, e, o⟩ := h3.out d; ⟨ao, n, c, e, ownsRow_below o (b1)⟩), h4, h5, h6, h7, h8, (fun d => let ⟨ao, n, c, e, o⟩ := h9.out d; ⟨ao, n, c, e, ownsRow_below o (b1)⟩), h10, h11, h12, h13, h14, (fun _ => ⟨ao, nn, cc, rfl, ownMono ow (RB.lt hB)⟩), (fun d => by have e := (h16.out d).2.2.1; rw [un] at e; cases e)⟩
    · have un : f16 = false := hun
      clear hun
      have d3 : f3 = true := ready_dep 3 hi (by kernel_rfl)
      obtain ⟨a3, n3, m3, y3, o3⟩ := h3.out d3
      subst y3
      have d9 : f9 = true := ready_dep 9 hi (by kernel_rfl)
      obtain ⟨a9, n9, m9, y9, o9⟩ := h9.out d9
      subst y9
      have d15 : f15 = true := ready_dep 15 hi (by kernel_rfl)
      obtain ⟨a15, n15, m15, y15, o15⟩ := h15.out d15
      subst y15
      clear hi hne hlt'
      refine wpOp_step rfl (fun K hK => ?_)
      have HK : Shut _ := hK
      clear hK
      go_simp
      refine HK.out _ _ ?_
      exact ⟨f0, f1, f2, f3, f4, f5, f6, f7, f8, f9, f10, f11, f12, f13, f14, f15, true, f17, rfl, e17, _, _, _, _, _, _, _, _, _, _, _, _, _, _, _, _, _, rfl, hB, h0, h1, h2, h3, h4, h5, h6, h7, h8, h9, h10, h11, h12, h13, h14, h15, (fun _ => ⟨d3, d9, d15, rfl⟩)⟩
  · intro f a w' hl hJ
    refine JSwap.elim hJ (C := fun f a w' => 17 ∈ Region.ready .any _ f.toArray → wpOp _ _ _ 17 _ a w') ?_
    clear hJ hl f a
    intro f0 f1 f2 f3 f4 f5 f6 f7 f8 f9 f10 f11 f12 f13 f14 f15 f16 f17 x56 x57 x58 x59 x60 x61 x62 x63 x64 x65 x66 x67 x68 x69 x70 x71 x72 e17 hB h0 h1 h2 h3 h4 h5 h6 h7 h8 h9 h10 h11 h12 h13 h14 h15 h16 hi
    have d16 : f16 = true := ready_dep 16 hi (by kernel_rfl)
    obtain ⟨_, _, _, y16⟩ := h16.out d16
    subst y16
    have d3 : f3 = true := ready_dep 3 hi (by kernel_rfl)
    obtain ⟨a3, n3, m3, y3, o3⟩ := h3.out d3
    subst y3
    have d9 : f9 = true := ready_dep 9 hi (by kernel_rfl)
    obtain ⟨a9, n9, m9, y9, o9⟩ := h9.out d9
    subst y9
    have d15 : f15 = true := ready_dep 15 hi (by kernel_rfl)
    obtain ⟨a15, n15, m15, y15, o15⟩ := h15.out d15
    subst y15
    clear hi
    obtain ⟨⟨z0, y0⟩, ⟨z1, y1⟩, ⟨z2, y2⟩, ⟨z3, y3⟩, g0, g1, g2, g3⟩ := hB.four
    refine wpOp_step rfl (fun K hK => ?_)
    have HK : Shut _ := hK
    clear hK
    go_simp
    refine HK.out _ _ ?_
    have KF : Cl ((((w'.setCell ⟨p + 1, 0, none⟩ (.bool false)).setCell ⟨p + 1, 1, none⟩ (.slice a3 n3 m3)).setCell ⟨p + 1, 2, none⟩ (.slice a9 n9 m9)).setCell ⟨p + 1, 3, none⟩ (.slice a15 n15 m15)) (p + 1) #[.bool false, .slice a3 n3 m3, .slice a9 n9 m9, .slice a15 n15 m15] 26 := by
      obtain ⟨_, u0, u1, u2, u3, kc⟩ := hB
      exact kc.set4 _ _ _ _
    have BF : Hid (Below p w ((((w'.setCell ⟨p + 1, 0, none⟩ (.bool false)).setCell ⟨p + 1, 1, none⟩ (.slice a3 n3 m3)).setCell ⟨p + 1, 2, none⟩ (.slice a9 n9 m9)).setCell ⟨p + 1, 3, none⟩ (.slice a15 n15 m15))) := belSet4 (HBX.out _ hB) (Nat.le_succ p)
    have OF : Hid (NdO p ((((w'.setCell ⟨p + 1, 0, none⟩ (.bool false)).setCell ⟨p + 1, 1, none⟩ (.slice a3 n3 m3)).setCell ⟨p + 1, 2, none⟩ (.slice a9 n9 m9)).setCell ⟨p + 1, 3, none⟩ (.slice a15 n15 m15)) (.slice a3 n3 m3) (.slice a9 n9 m9) (.slice a15 n15 m15) ⟨false, es, rpL ks fr tr kk, rpL ss fr ta yy⟩) := ⟨ownMono (ownSet4 o3 (Nat.lt_succ_self _)) (by omega), ownMono (ownSet4 o9 (Nat.lt_succ_self _)) (by omega), ownMono (ownSet4 o15 (Nat.lt_succ_self _)) (by omega)⟩
    generalize ((((w'.setCell ⟨p + 1, 0, none⟩ (.bool false)).setCell ⟨p + 1, 1, none⟩ (.slice a3 n3 m3)).setCell ⟨p + 1, 2, none⟩ (.slice a9 n9 m9)).setCell ⟨p + 1, 3, none⟩ (.slice a15 n15 m15)) = X at *
    obtain ⟨k0, k1, k2, k3⟩ := KF.four
    clear y0 y1 y2 y3 g0 g1 g2 g3 hB h0 h1 h2 h3 h4 h5 h6 h7 h8 h9 h10 h11 h12 h13 h14 h15 h16
    go_wp2
    refine bodyPost_ret (v := .agg #[.bool false, .slice a3 n3 m3, .slice a9 n9 m9, .slice a15 n15 m15]) ?_ rfl ⟨_, _, _, rfl, by rw [hp]; exact OF.out, by rw [hp]; exact BF.out⟩
    rw [results_cell rfl]
    go_simp
  · rintro f a w' ⟨f0, f1, f2, f3, f4, f5, f6, f7, f8, f9, f10, f11, f12, f13, f14, f15, f16, f17, rfl, rfl, _⟩
    rfl
set_option maxHeartbeats 8000000 in
set_option maxRecDepth 100000 in
theorem swap_g1 (es : List En) (ks kk : List Int) (ss yy : List ByteArray) (fr tr : Nat) (ve vk vs vo vy : Value) (w : World) (he : Row encP 2 w ve es) (hk : Row encI 1 w vk ks) (hss : Row encS 1 w vs ss) (hkk : Row encI 1 w vo kk) (hyy : Row encS 1 w vy yy)
    (s1 : es.length ≤ 1000) (s2 : ks.length ≤ 1000) (s3 : ss.length ≤ 1000) (s4 : kk.length ≤ 1000) (s5 : yy.length ≤ 1000) (hft : fr < tr) (htk : tr ≤ ks.length) (hyk : (yy.length : Int) = max ((kk.length : Int) - 1) 0) (fa ta : Nat) (g : kk.length = 0) (g2 : 0 < fr) (hf1 : fa = fr - 1) (ht1 : ta = tr - 1) :
    Calls Try.prog 26 #[.agg #[.bool false, ve, vk, vs], .int .i64 fr, .int .i64 tr, vo, vy] w (GvN w ⟨false, es, rpL ks fr tr kk, rpL ss fa ta yy⟩) := by
  obtain ⟨ae, ce, rfl, _⟩ := rowShape he
  obtain ⟨ak, ck, rfl, _⟩ := rowShape hk
  obtain ⟨az, cz, rfl, _⟩ := rowShape hss
  obtain ⟨ao, co, rfl, _⟩ := rowShape hkk
  obtain ⟨ay, cy, rfl, _⟩ := rowShape hyy
  have K1 : Cl ((w.alloc (.cells #[.bool false, .slice ae es.length ce, .slice ak ks.length ck, .slice az ss.length cz] 26)).alloc (.cells #[.bool false, .slice none 0 0, .slice none 0 0, .slice none 0 0] 26)) w.heap.size #[.bool false, .slice ae es.length ce, .slice ak ks.length ck, .slice az ss.length cz] 26 := (Cl.new0 _ _ _).alloc _
  have K2 : Cl ((w.alloc (.cells #[.bool false, .slice ae es.length ce, .slice ak ks.length ck, .slice az ss.length cz] 26)).alloc (.cells #[.bool false, .slice none 0 0, .slice none 0 0, .slice none 0 0] 26)) (w.heap.size + 1) #[.bool false, .slice none 0 0, .slice none 0 0, .slice none 0 0] 26 := Cl.new1 _ _ _ _
  have BW : Hid (Below w.heap.size w ((w.alloc (.cells #[.bool false, .slice ae es.length ce, .slice ak ks.length ck, .slice az ss.length cz] 26)).alloc (.cells #[.bool false, .slice none 0 0, .slice none 0 0, .slice none 0 0] 26))) := belAlloc _ (belAlloc _ (Below.refl _ _))
  have gz : decide ((0 : Int) < (kk.length : Int)) = false := decide_eq_false (by omega)
  have gzn : decide (0 < kk.length) = false := decide_eq_false (by omega)
  have gz2 : (0 : Int) < (fr : Int) := by omega
  have e1 : (fa : Int) = (fr : Int) - 1 := by omega
  have e2 : (ta : Int) = (tr : Int) - 1 := by omega
  have q1 : ¬ (fr : Int) < 0 := by omega
  have q2 : ¬ (ks.length : Int) < (tr : Int) := by omega
  have q3 : ¬ (tr : Int) ≤ (fr : Int) := by omega
  have q4 : ((yy.length : Int) != max ((kk.length : Int) - 1) 0) = false := by rw [bne_eq_false_iff_eq]; exact hyk
  generalize hlo : kk.length = no at *
  clear hyk g
  go_enter Try.func26, Try.ntmps26
  go_upto_region 1 with fail
  generalize ((w.alloc (.cells #[.bool false, .slice ae es.length ce, .slice ak ks.length ck, .slice az ss.length cz] 26)).alloc (.cells #[.bool false, .slice none 0 0, .slice none 0 0, .slice none 0 0] 26)) = W at *
  obtain ⟨p, hp⟩ : ∃ p, w.heap.size = p := ⟨_, rfl⟩
  rw [hp] at K1 K2 BW ⊢
  obtain ⟨c0, c1, c2, c3⟩ := K1.four
  have lw := K2.lt
  have R0 : Hid (RB W (p + 1) 26 W.drew) := ⟨(Below.refl _ W).drew, _, _, _, _, K2⟩
  have BX : ∀ X, RB W (p + 1) 26 X → Below p w X := fun X hX => BW.out.trans (hX.1.mono (Nat.le_succ p))
  have RE : Hid (∀ X, RB W (p + 1) 26 X → Row encP 2 X (.slice ae es.length ce) es) := fun X hX => he.below (by rw [hp]; exact BX X hX)
  have RK : Hid (∀ X, RB W (p + 1) 26 X → Row encI 1 X (.slice ak ks.length ck) ks) := fun X hX => hk.below (by rw [hp]; exact BX X hX)
  have RS : Hid (∀ X, RB W (p + 1) 26 X → Row encS 1 X (.slice az ss.length cz) ss) := fun X hX => hss.below (by rw [hp]; exact BX X hX)
  have RO : Hid (∀ X, RB W (p + 1) 26 X → Row encI 1 X (.slice ao no co) kk) := fun X hX => hkk.below (by rw [hp]; exact BX X hX)
  have RY : Hid (∀ X, RB W (p + 1) 26 X → Row encS 1 X (.slice ay yy.length cy) yy) := fun X hX => hyy.below (by rw [hp]; exact BX X hX)
  have MK : Hid (∀ X, RB W (p + 1) 26 X → X.cell? ⟨p, 0, none⟩ = some (.bool false) ∧ X.cell? ⟨p, 1, none⟩ = some (.slice ae es.length ce) ∧ X.cell? ⟨p, 2, none⟩ = some (.slice ak ks.length ck) ∧ X.cell? ⟨p, 3, none⟩ = some (.slice az ss.length cz)) := fun X hX => (K1.below hX.1 (Nat.lt_succ_self p)).four
  have HBX : Hid (∀ X, RB W (p + 1) 26 X → Below p w X) := BX
  have HLO : Hid (kk.length = no) := hlo
  have HP : Hid (w.heap.size = p) := hp
  clear he hk hss hkk hyy K1 K2 BW BX hlo hp
  go_upto_region 8 with fail
  (try rw [← e1])
  (try rw [← e2])
  have bfa : fa ≤ 1000 := by omega
  have bta : ta ≤ 1000 := by omega
  have hlo := HLO.out
  clear e1 e2 hf1 ht1 gz gzn gz2 g2 q1 q2 q3 q4
  have hp := HP.out
  clear c0 c1 c2 c3
  refine region_inv 17 (JSwap W p fr tr fa ta no ae ak az ao ay ce ck cz co cy es ks kk ss yy _ _ _ _ _ _ _ _ _ _ _ _ _ _ _ _ _ _ _ _ _ _ _ _ _ _ _ _ _ _ _ _ _ _ _ _ _ _ _ _ _ _ _ _ _ _ _) (by kernel_rfl) (by kernel_rfl) (by kernel_rfl) ⟨false, false, false, false, false, false, false, false, false, false, false, false, false, false, false, false, false, false, rfl, rfl, _, _, _, _, _, _, _, _, _, _, _, _, _, _, _, _, _, rfl, R0.out, (fun h => by cases h), (fun h => by cases h), (fun h => by cases h), (fun h => by cases h), (fun h => by cases h), (fun h => by cases h), (fun h => by cases h), (fun h => by cases h), (fun h => by cases h), (fun h => by cases h), (fun h => by cases h), (fun h => by cases h), (fun h => by cases h), (fun h => by cases h), (fun h => by cases h), (fun h => by cases h), (fun h => by cases h)⟩ ?_ ?_ ?_
  · intro i f a w' hne hl hJ
    refine JSwap.elim hJ (C := fun f a w' => i ∈ Region.ready .any _ f.toArray → wpOp _ _ _ i (fun a' w'' => JSwap W p fr tr fa ta no ae ak az ao ay ce ck cz co cy es ks kk ss yy _ _ _ _ _ _ _ _ _ _ _ _ _ _ _ _ _ _ _ _ _ _ _ _ _ _ _ _ _ _ _ _ _ _ _ _ _ _ _ _ _ _ _ _ _ _ _ (f.set i true) a' w'') a w') ?_
    clear hJ hl f a
    intro f0 f1 f2 f3 f4 f5 f6 f7 f8 f9 f10 f11 f12 f13 f14 f15 f16 f17 x56 x57 x58 x59 x60 x61 x62 x63 x64 x65 x66 x67 x68 x69 x70 x71 x72 e17 hB h0 h1 h2 h3 h4 h5 h6 h7 h8 h9 h10 h11 h12 h13 h14 h15 h16 hi
    obtain ⟨hlt, hun, _⟩ := ready_mem hi
    have hlt' : i < 18 := hlt
    clear hlt
    rcases (by omega : i = 0 ∨ i = 1 ∨ i = 2 ∨ i = 3 ∨ i = 4 ∨ i = 5 ∨ i = 6 ∨ i = 7 ∨ i = 8 ∨ i = 9 ∨ i = 10 ∨ i = 11 ∨ i = 12 ∨ i = 13 ∨ i = 14 ∨ i = 15 ∨ i = 16) with rfl | rfl | rfl | rfl | rfl | rfl | rfl | rfl | rfl | rfl | rfl | rfl | rfl | rfl | rfl | rfl | rfl
    · have un : f0 = false := hun
      clear hun
      clear hi hne hlt'
      refine wpOp_step rfl (fun K hK => ?_)
      have HK : Shut _ := hK
      clear hK
      go_simp
      refine HK.out _ _ ?_
      exact ⟨true, f1, f2, f3, f4, f5, f6, f7, f8, f9, f10, f11, f12, f13, f14, f15, f16, f17, rfl, e17, _, _, _, _, _, _, _, _, _, _, _, _, _, _, _, _, _, rfl, hB, (fun _ => rfl), h1, h2, h3, h4, h5, h6, h7, h8, h9, h10, h11, h12, h13, h14, h15, h16⟩
    · have un : f1 = false := hun
      clear hun
      have d0 : f0 = true := ready_dep 0 hi (by kernel_rfl)
      have y0 := h0.out d0
      subst y0
      clear hi hne hlt'
      have cell := (MK.out _ hB).2.1
      refine wpOp_step rfl (fun K hK => ?_)
      have HK : Shut _ := hK
      clear hK
      go_simp
      refine HK.out _ _ ?_
      exact ⟨f0, true, f2, f3, f4, f5, f6, f7, f8, f9, f10, f11, f12, f13, f14, f15, f16, f17, rfl, e17, _, _, _, _, _, _, _, _, _, _, _, _, _, _, _, _, _, rfl, hB, h0, (fun _ => rfl), h2, h3, h4, h5, h6, h7, h8, h9, h10, h11, h12, h13, h14, h15, h16⟩
    · have un : f2 = false := hun
      clear hun
      have d1 : f1 = true := ready_dep 1 hi (by kernel_rfl)
      have y1 := h1.out d1
      subst y1
      clear hi hne hlt'
      refine wpOp_step rfl (fun K hK => ?_)
      have HK : Shut _ := hK
      clear hK
      go_simp
      refine HK.out _ _ ?_
      exact ⟨f0, f1, true, f3, f4, f5, f6, f7, f8, f9, f10, f11, f12, f13, f14, f15, f16, f17, rfl, e17, _, _, _, _, _, _, _, _, _, _, _, _, _, _, _, _, _, rfl, RB.alloc hB _, h0, h1, (fun _ => ⟨_, rfl, Cl.new _ _ _⟩), (fun d => let ⟨ao, n, c, e, o⟩ := h3.out d; ⟨ao, n, c, e, ownsRow_below o (belAlloc _ (Below.refl _ _))⟩), h4, h5, h6, h7, h8, (fun d => let ⟨ao, n, c, e, o⟩ := h9.out d; ⟨ao, n, c, e, ownsRow_below o (belAlloc _ (Below.refl _ _))⟩), h10, h11, h12, h13, h14, (fun d => let ⟨ao, n, c, e, o⟩ := h15.out d; ⟨ao, n, c, e, ownsRow_below o (belAlloc _ (Below.refl _ _))⟩), h16⟩
    · have un : f3 = false := hun
      clear hun
      have d2 : f2 = true := ready_dep 2 hi (by kernel_rfl)
      obtain ⟨q2, y2, c2⟩ := h2.out d2
      subst y2
      clear hi hne hlt'
      refine wpOp_step rfl (fun K hK => ?_)
      have HK : Shut _ := hK
      clear hK
      go_simp
      refine Calls.mono (joinedE1 q2 22 (.slice ae es.length ce) es w' c2 (RE.out _ hB) (by omega)) ?_
      rintro e w1 ⟨ao, nn, cc, rfl, ow, b1⟩
      refine HK.out _ _ ?_
      exact ⟨f0, f1, f2, true, f4, f5, f6, f7, f8, f9, f10, f11, f12, f13, f14, f15, f16, f17, rfl, e17, _, _, _, _, _, _, _, _, _, _, _, _, _, _, _, _, _, rfl, RB.call hB b1, h0, h1, (fun d => let ⟨q, e, c⟩ := h2.out d; ⟨q, e, Cl.on c (b1)⟩), (fun _ => ⟨ao, nn, cc, rfl, ownMono ow (RB.lt hB)⟩), h4, h5, h6, h7, h8, (fun d => let ⟨ao, n, c, e, o⟩ := h9.out d; ⟨ao, n, c, e, ownsRow_below o (b1)⟩), h10, h11, h12, h13, h14, (fun d => let ⟨ao, n, c, e, o⟩ := h15.out d; ⟨ao, n, c, e, ownsRow_below o (b1)⟩), (fun d => by have e := (h16.out d).1; rw [un] at e; cases e)⟩
    · have un : f4 = false := hun
      clear hun
      clear hi hne hlt'
      refine wpOp_step rfl (fun K hK => ?_)
      have HK : Shut _ := hK
      clear hK
      go_simp
      refine HK.out _ _ ?_
      exact ⟨f0, f1, f2, f3, true, f5, f6, f7, f8, f9, f10, f11, f12, f13, f14, f15, f16, f17, rfl, e17, _, _, _, _, _, _, _, _, _, _, _, _, _, _, _, _, _, rfl, hB, h0, h1, h2, h3, (fun _ => rfl), h5, h6, h7, h8, h9, h10, h11, h12, h13, h14, h15, h16⟩
    · have un : f5 = false := hun
      clear hun
      have d4 : f4 = true := ready_dep 4 hi (by kernel_rfl)
      have y4 := h4.out d4
      subst y4
      clear hi hne hlt'
      have cell := (MK.out _ hB).2.2.1
      refine wpOp_step rfl (fun K hK => ?_)
      have HK : Shut _ := hK
      clear hK
      go_simp
      refine HK.out _ _ ?_
      exact ⟨f0, f1, f2, f3, f4, true, f6, f7, f8, f9, f10, f11, f12, f13, f14, f15, f16, f17, rfl, e17, _, _, _, _, _, _, _, _, _, _, _, _, _, _, _, _, _, rfl, hB, h0, h1, h2, h3, h4, (fun _ => rfl), h6, h7, h8, h9, h10, h11, h12, h13, h14, h15, h16⟩
    · have un : f6 = false := hun
      clear hun
      clear hi hne hlt'
      refine wpOp_step rfl (fun K hK => ?_)
      have HK : Shut _ := hK
      clear hK
      go_simp
      refine HK.out _ _ ?_
      exact ⟨f0, f1, f2, f3, f4, f5, true, f7, f8, f9, f10, f11, f12, f13, f14, f15, f16, f17, rfl, e17, _, _, _, _, _, _, _, _, _, _, _, _, _, _, _, _, _, rfl, hB, h0, h1, h2, h3, h4, h5, (fun _ => rfl), h7, h8, h9, h10, h11, h12, h13, h14, h15, h16⟩
    · have un : f7 = false := hun
      clear hun
      clear hi hne hlt'
      refine wpOp_step rfl (fun K hK => ?_)
      have HK : Shut _ := hK
      clear hK
      go_simp
      refine HK.out _ _ ?_
      exact ⟨f0, f1, f2, f3, f4, f5, f6, true, f8, f9, f10, f11, f12, f13, f14, f15, f16, f17, rfl, e17, _, _, _, _, _, _, _, _, _, _, _, _, _, _, _, _, _, rfl, hB, h0, h1, h2, h3, h4, h5, h6, (fun _ => rfl), h8, h9, h10, h11, h12, h13, h14, h15, h16⟩
    · have un : f8 = false := hun
      clear hun
      clear hi hne hlt'
      refine wpOp_step rfl (fun K hK => ?_)
      have HK : Shut _ := hK
      clear hK
      go_simp
      refine HK.out _ _ ?_
      exact ⟨f0, f1, f2, f3, f4, f5, f6, f7, true, f9, f10, f11, f12, f13, f14, f15, f16, f17, rfl, e17, _, _, _, _, _, _, _, _, _, _, _, _, _, _, _, _, _, rfl, hB, h0, h1, h2, h3, h4, h5, h6, h7, (fun _ => rfl), h9, h10, h11, h12, h13, h14, h15, h16⟩
    · have un : f9 = false := hun
      clear hun
      have d5 : f5 = true := ready_dep 5 hi (by kernel_rfl)
      have y5 := h5.out d5
      subst y5
      have d6 : f6 = true := ready_dep 6 hi (by kernel_rfl)
      have y6 := h6.out d6
      subst y6
      have d7 : f7 = true := ready_dep 7 hi (by kernel_rfl)
      have y7 := h7.out d7
      subst y7
      have d8 : f8 = true := ready_dep 8 hi (by kernel_rfl)
      have y8 := h8.out d8
      subst y8
      clear hi hne hlt'
      refine wpOp_step rfl (fun K hK => ?_)
      have HK : Shut _ := hK
      clear hK
      go_simp
      refine Calls.mono (replacedI (.slice ak ks.length ck) (.slice ao no co) ks kk fr tr w' (RK.out _ hB) (RO.out _ hB) (by omega) (by omega) (by omega) (by omega)) ?_
      rintro e w1 ⟨ao, nn, cc, rfl, ow, b1⟩
      refine HK.out _ _ ?_
      exact ⟨f0, f1, f2, f3, f4, f5, f6, f7, f8, true, f10, f11, f12, f13, f14, f15, f16, f17, rfl, e17, _, _, _, _, _, _, _, _, _, _, _, _, _, _, _, _, _, rfl, RB.call hB b1, h0, h1, (fun d => let ⟨q, e, c⟩ := h2.out d; ⟨q, e, Cl.on c (b1)⟩), (fun d => let ⟨ao, n, c, e, o⟩ := h3.out d; ⟨ao, n, c, e, ownsRow_below o (b1)⟩), h4, h5, h6, h7, h8, (fun _ => ⟨ao, nn, cc, rfl, ownMono ow (RB.lt hB)⟩), h10, h11, h12, h13, h14, (fun d => let ⟨ao, n, c, e, o⟩ := h15.out d; ⟨ao, n, c, e, ownsRow_below o (b1)⟩), (fun d => by have e := (h16.out d).2.1; rw [un] at e; cases e)⟩
    · have un : f10 = false := hun
      clear hun
      clear hi hne hlt'
      refine wpOp_step rfl (fun K hK => ?_)
      have HK : Shut _ := hK
      clear hK
      go_simp
      refine HK.out _ _ ?_
      exact ⟨f0, f1, f2, f3, f4, f5, f6, f7, f8, f9, true, f11, f12, f13, f14, f15, f16, f17, rfl, e17, _, _, _, _, _, _, _, _, _, _, _, _, _, _, _, _, _, rfl, hB, h0, h1, h2, h3, h4, h5, h6, h7, h8, h9, (fun _ => rfl), h11, h12, h13, h14, h15, h16⟩
    · have un : f11 = false := hun
      clear hun
      have d10 : f10 = true := ready_dep 10 hi (by kernel_rfl)
      have y10 := h10.out d10
      subst y10
      clear hi hne hlt'
      have cell := (MK.out _ hB).2.2.2
      refine wpOp_step rfl (fun K hK => ?_)
      have HK : Shut _ := hK
      clear hK
      go_simp
      refine HK.out _ _ ?_
      exact ⟨f0, f1, f2, f3, f4, f5, f6, f7, f8, f9, f10, true, f12, f13, f14, f15, f16, f17, rfl, e17, _, _, _, _, _, _, _, _, _, _, _, _, _, _, _, _, _, rfl, hB, h0, h1, h2, h3, h4, h5, h6, h7, h8, h9, h10, (fun _ => rfl), h12, h13, h14, h15, h16⟩
    · have un : f12 = false := hun
      clear hun
      clear hi hne hlt'
      refine wpOp_step rfl (fun K hK => ?_)
      have HK : Shut _ := hK
      clear hK
      go_simp
      refine HK.out _ _ ?_
      exact ⟨f0, f1, f2, f3, f4, f5, f6, f7, f8, f9, f10, f11, true, f13, f14, f15, f16, f17, rfl, e17, _, _, _, _, _, _, _, _, _, _, _, _, _, _, _, _, _, rfl, hB, h0, h1, h2, h3, h4, h5, h6, h7, h8, h9, h10, h11, (fun _ => rfl), h13, h14, h15, h16⟩
    · have un : f13 = false := hun
      clear hun
      clear hi hne hlt'
      refine wpOp_step rfl (fun K hK => ?_)
      have HK : Shut _ := hK
      clear hK
      go_simp
      refine HK.out _ _ ?_
      exact ⟨f0, f1, f2, f3, f4, f5, f6, f7, f8, f9, f10, f11, f12, true, f14, f15, f16, f17, rfl, e17, _, _, _, _, _, _, _, _, _, _, _, _, _, _, _, _, _, rfl, hB, h0, h1, h2, h3, h4, h5, h6, h7, h8, h9, h10, h11, h12, (fun _ => rfl), h14, h15, h16⟩
    · have un : f14 = false := hun
      clear hun
      clear hi hne hlt'
      refine wpOp_step rfl (fun K hK => ?_)
      have HK : Shut _ := hK
      clear hK
      go_simp
      refine HK.out _ _ ?_
      exact ⟨f0, f1, f2, f3, f4, f5, f6, f7, f8, f9, f10, f11, f12, f13, true, f15, f16, f17, rfl, e17, _, _, _, _, _, _, _, _, _, _, _, _, _, _, _, _, _, rfl, hB, h0, h1, h2, h3, h4, h5, h6, h7, h8, h9, h10, h11, h12, h13, (fun _ => rfl), h15, h16⟩
    · have un : f15 = false := hun
      clear hun
      have d11 : f11 = true := ready_dep 11 hi (by kernel_rfl)
      have y11 := h11.out d11
      subst y11
      have d12 : f12 = true := ready_dep 12 hi (by kernel_rfl)
      have y12 := h12.out d12
      subst y12
      have d13 : f13 = true := ready_dep 13 hi (by kernel_rfl)
      have y13 := h13.out d13
      subst y13
      have d14 : f14 = true := ready_dep 14 hi (by kernel_rfl)
      have y14 := h14.out d14
      subst y14
      clear hi hne hlt'
      refine wpOp_step rfl (fun K hK => ?_)
      have HK : Shut _ := hK
      clear hK
      go_simp
      refine Calls.mono (replacedS (.slice az ss.length cz) (.slice ay yy.length cy) ss yy fa ta w' (RS.out _ hB) (RY.out _ hB) (by omega) (by omega) (by omega) (by omega)) ?_
      rintro e w1 ⟨ao, nn, cc, rfl, ow, b1⟩
      refine HK.out _ _ ?_
      exact ⟨f0, f1, f2, f3, f4, f5, f6, f7, f8, f9, f10, f11, f12, f13, f14, true, f16, f17, rfl, e17, _, _, _, _, _, _, _, _, _, _, _, _, _, _, _, _, _, rfl, RB.call hB b1, h0, h1, (fun d => let ⟨q, e, c⟩ := h2.out d; ⟨q, e, Cl.on c (b1)⟩), (fun d => let ⟨ao, n, c, e, o⟩ := h3.out d; ⟨ao, n, c, e, ownsRow_below o (b1)⟩), h4, h5, h6, h7, h8, (fun d => let ⟨ao, n, c, e, o⟩ := h9.out d; ⟨ao, n, c, e, ownsRow_below o (b1)⟩), h10, h11, h12, h13, h14, (fun _ => ⟨ao, nn, cc, rfl, ownMono ow (RB.lt hB)⟩), (fun d => by have e := (h16.out d).2.2.1; rw [un] at e; cases e)⟩
    · have un : f16 = false := hun
      clear hun
      have d3 : f3 = true := ready_dep 3 hi (by kernel_rfl)
      obtain ⟨a3, n3, m3, y3, o3⟩ := h3.out d3
      subst y3
      have d9 : f9 = true := ready_dep 9 hi (by kernel_rfl)
      obtain ⟨a9, n9, m9, y9, o9⟩ := h9.out d9
      subst y9
      have d15 : f15 = true := ready_dep 15 hi (by kernel_rfl)
      obtain ⟨a15, n15, m15, y15, o15⟩ := h15.out d15
      subst y15
      clear hi hne hlt'
      refine wpOp_step rfl (fun K hK => ?_)
      have HK : Shut _ := hK
      clear hK
      go_simp
      refine HK.out _ _ ?_
      exact ⟨f0, f1, f2, f3, f4, f5, f6, f7, f8, f9, f10, f11, f12, f13, f14, f15, true, f17, rfl, e17, _, _, _, _, _, _, _, _, _, _, _, _, _, _, _, _, _, rfl, hB, h0, h1, h2, h3, h4, h5, h6, h7, h8, h9, h10, h11, h12, h13, h14, h15, (fun _ => ⟨d3, d9, d15, rfl⟩)⟩
  · intro f a w' hl hJ
    refine JSwap.elim hJ (C := fun f a w' => 17 ∈ Region.ready .any _ f.toArray → wpOp _ _ _ 17 _ a w') ?_
    clear hJ hl f a
    intro f0 f1 f2 f3 f4 f5 f6 f7 f8 f9 f10 f11 f12 f13 f14 f15 f16 f17 x56 x57 x58 x59 x60 x61 x62 x63 x64 x65 x66 x67 x68 x69 x70 x71 x72 e17 hB h0 h1 h2 h3 h4 h5 h6 h7 h8 h9 h10 h11 h12 h13 h14 h15 h16 hi
    have d16 : f16 = true := ready_dep 16 hi (by kernel_rfl)
    obtain ⟨_, _, _, y16⟩ := h16.out d16
    subst y16
    have d3 : f3 = true := ready_dep 3 hi (by kernel_rfl)
    obtain ⟨a3, n3, m3, y3, o3⟩ := h3.out d3
    subst y3
    have d9 : f9 = true := ready_dep 9 hi (by kernel_rfl)
    obtain ⟨a9, n9, m9, y9, o9⟩ := h9.out d9
    subst y9
    have d15 : f15 = true := ready_dep 15 hi (by kernel_rfl)
    obtain ⟨a15, n15, m15, y15, o15⟩ := h15.out d15
    subst y15
    clear hi
    obtain ⟨⟨z0, y0⟩, ⟨z1, y1⟩, ⟨z2, y2⟩, ⟨z3, y3⟩, g0, g1, g2, g3⟩ := hB.four
    refine wpOp_step rfl (fun K hK => ?_)
    have HK : Shut _ := hK
    clear hK
    go_simp
    refine HK.out _ _ ?_
    have KF : Cl ((((w'.setCell ⟨p + 1, 0, none⟩ (.bool false)).setCell ⟨p + 1, 1, none⟩ (.slice a3 n3 m3)).setCell ⟨p + 1, 2, none⟩ (.slice a9 n9 m9)).setCell ⟨p + 1, 3, none⟩ (.slice a15 n15 m15)) (p + 1) #[.bool false, .slice a3 n3 m3, .slice a9 n9 m9, .slice a15 n15 m15] 26 := by
      obtain ⟨_, u0, u1, u2, u3, kc⟩ := hB
      exact kc.set4 _ _ _ _
    have BF : Hid (Below p w ((((w'.setCell ⟨p + 1, 0, none⟩ (.bool false)).setCell ⟨p + 1, 1, none⟩ (.slice a3 n3 m3)).setCell ⟨p + 1, 2, none⟩ (.slice a9 n9 m9)).setCell ⟨p + 1, 3, none⟩ (.slice a15 n15 m15))) := belSet4 (HBX.out _ hB) (Nat.le_succ p)
    have OF : Hid (NdO p ((((w'.setCell ⟨p + 1, 0, none⟩ (.bool false)).setCell ⟨p + 1, 1, none⟩ (.slice a3 n3 m3)).setCell ⟨p + 1, 2, none⟩ (.slice a9 n9 m9)).setCell ⟨p + 1, 3, none⟩ (.slice a15 n15 m15)) (.slice a3 n3 m3) (.slice a9 n9 m9) (.slice a15 n15 m15) ⟨false, es, rpL ks fr tr kk, rpL ss fa ta yy⟩) := ⟨ownMono (ownSet4 o3 (Nat.lt_succ_self _)) (by omega), ownMono (ownSet4 o9 (Nat.lt_succ_self _)) (by omega), ownMono (ownSet4 o15 (Nat.lt_succ_self _)) (by omega)⟩
    generalize ((((w'.setCell ⟨p + 1, 0, none⟩ (.bool false)).setCell ⟨p + 1, 1, none⟩ (.slice a3 n3 m3)).setCell ⟨p + 1, 2, none⟩ (.slice a9 n9 m9)).setCell ⟨p + 1, 3, none⟩ (.slice a15 n15 m15)) = X at *
    obtain ⟨k0, k1, k2, k3⟩ := KF.four
    clear y0 y1 y2 y3 g0 g1 g2 g3 hB h0 h1 h2 h3 h4 h5 h6 h7 h8 h9 h10 h11 h12 h13 h14 h15 h16
    go_wp2
    refine bodyPost_ret (v := .agg #[.bool false, .slice a3 n3 m3, .slice a9 n9 m9, .slice a15 n15 m15]) ?_ rfl ⟨_, _, _, rfl, by rw [hp]; exact OF.out, by rw [hp]; exact BF.out⟩
    rw [results_cell rfl]
    go_simp
  · rintro f a w' ⟨f0, f1, f2, f3, f4, f5, f6, f7, f8, f9, f10, f11, f12, f13, f14, f15, f16, f17, rfl, rfl, _⟩
    rfl
set_option maxHeartbeats 8000000 in
set_option maxRecDepth 100000 in
theorem swap_g2 (es : List En) (ks kk : List Int) (ss yy : List ByteArray) (fr tr : Nat) (ve vk vs vo vy : Value) (w : World) (he : Row encP 2 w ve es) (hk : Row encI 1 w vk ks) (hss : Row encS 1 w vs ss) (hkk : Row encI 1 w vo kk) (hyy : Row encS 1 w vy yy)
    (s1 : es.length ≤ 1000) (s2 : ks.length ≤ 1000) (s3 : ss.length ≤ 1000) (s4 : kk.length ≤ 1000) (s5 : yy.length ≤ 1000) (hft : fr < tr) (htk : tr ≤ ks.length) (hyk : (yy.length : Int) = max ((kk.length : Int) - 1) 0) (g : kk.length = 0) (g2 : fr = 0) :
    Calls Try.prog 26 #[.agg #[.bool false, ve, vk, vs], .int .i64 fr, .int .i64 tr, vo, vy] w (GvN w ⟨false, es, rpL ks fr tr kk, rpL ss fr tr yy⟩) := by
  obtain ⟨ae, ce, rfl, _⟩ := rowShape he
  obtain ⟨ak, ck, rfl, _⟩ := rowShape hk
  obtain ⟨az, cz, rfl, _⟩ := rowShape hss
  obtain ⟨ao, co, rfl, _⟩ := rowShape hkk
  obtain ⟨ay, cy, rfl, _⟩ := rowShape hyy
  have K1 : Cl ((w.alloc (.cells #[.bool false, .slice ae es.length ce, .slice ak ks.length ck, .slice az ss.length cz] 26)).alloc (.cells #[.bool false, .slice none 0 0, .slice none 0 0, .slice none 0 0] 26)) w.heap.size #[.bool false, .slice ae es.length ce, .slice ak ks.length ck, .slice az ss.length cz] 26 := (Cl.new0 _ _ _).alloc _
  have K2 : Cl ((w.alloc (.cells #[.bool false, .slice ae es.length ce, .slice ak ks.length ck, .slice az ss.length cz] 26)).alloc (.cells #[.bool false, .slice none 0 0, .slice none 0 0, .slice none 0 0] 26)) (w.heap.size + 1) #[.bool false, .slice none 0 0, .slice none 0 0, .slice none 0 0] 26 := Cl.new1 _ _ _ _
  have BW : Hid (Below w.heap.size w ((w.alloc (.cells #[.bool false, .slice ae es.length ce, .slice ak ks.length ck, .slice az ss.length cz] 26)).alloc (.cells #[.bool false, .slice none 0 0, .slice none 0 0, .slice none 0 0] 26))) := belAlloc _ (belAlloc _ (Below.refl _ _))
  have gz : decide ((0 : Int) < (kk.length : Int)) = false := decide_eq_false (by omega)
  have gzn : decide (0 < kk.length) = false := decide_eq_false (by omega)
  have gz2 : decide ((0 : Int) < (fr : Int)) = false := decide_eq_false (by omega)
  have gz2n : decide (0 < fr) = false := decide_eq_false (by omega)

  have q1 : ¬ (fr : Int) < 0 := by omega
  have q2 : ¬ (ks.length : Int) < (tr : Int) := by omega
  have q3 : ¬ (tr : Int) ≤ (fr : Int) := by omega
  have q4 : ((yy.length : Int) != max ((kk.length : Int) - 1) 0) = false := by rw [bne_eq_false_iff_eq]; exact hyk
  generalize hlo : kk.length = no at *
  clear hyk g g2
  go_enter Try.func26, Try.ntmps26
  go_upto_region 1 with fail
  generalize ((w.alloc (.cells #[.bool false, .slice ae es.length ce, .slice ak ks.length ck, .slice az ss.length cz] 26)).alloc (.cells #[.bool false, .slice none 0 0, .slice none 0 0, .slice none 0 0] 26)) = W at *
  obtain ⟨p, hp⟩ : ∃ p, w.heap.size = p := ⟨_, rfl⟩
  rw [hp] at K1 K2 BW ⊢
  obtain ⟨c0, c1, c2, c3⟩ := K1.four
  have lw := K2.lt
  have R0 : Hid (RB W (p + 1) 26 W.drew) := ⟨(Below.refl _ W).drew, _, _, _, _, K2⟩
  have BX : ∀ X, RB W (p + 1) 26 X → Below p w X := fun X hX => BW.out.trans (hX.1.mono (Nat.le_succ p))
  have RE : Hid (∀ X, RB W (p + 1) 26 X → Row encP 2 X (.slice ae es.length ce) es) := fun X hX => he.below (by rw [hp]; exact BX X hX)
  have RK : Hid (∀ X, RB W (p + 1) 26 X → Row encI 1 X (.slice ak ks.length ck) ks) := fun X hX => hk.below (by rw [hp]; exact BX X hX)
  have RS : Hid (∀ X, RB W (p + 1) 26 X → Row encS 1 X (.slice az ss.length cz) ss) := fun X hX => hss.below (by rw [hp]; exact BX X hX)
  have RO : Hid (∀ X, RB W (p + 1) 26 X → Row encI 1 X (.slice ao no co) kk) := fun X hX => hkk.below (by rw [hp]; exact BX X hX)
  have RY : Hid (∀ X, RB W (p + 1) 26 X → Row encS 1 X (.slice ay yy.length cy) yy) := fun X hX => hyy.below (by rw [hp]; exact BX X hX)
  have MK : Hid (∀ X, RB W (p + 1) 26 X → X.cell? ⟨p, 0, none⟩ = some (.bool false) ∧ X.cell? ⟨p, 1, none⟩ = some (.slice ae es.length ce) ∧ X.cell? ⟨p, 2, none⟩ = some (.slice ak ks.length ck) ∧ X.cell? ⟨p, 3, none⟩ = some (.slice az ss.length cz)) := fun X hX => (K1.below hX.1 (Nat.lt_succ_self p)).four
  have HBX : Hid (∀ X, RB W (p + 1) 26 X → Below p w X) := BX
  have HLO : Hid (kk.length = no) := hlo
  have HP : Hid (w.heap.size = p) := hp
  clear he hk hss hkk hyy K1 K2 BW BX hlo hp
  go_upto_region 8 with fail
  (try rw [← e1])
  (try rw [← e2])
  have bfa : fr ≤ 1000 := by omega
  have bta : tr ≤ 1000 := by omega
  have hlo := HLO.out
  clear gz gzn gz2 gz2n q1 q2 q3 q4
  have hp := HP.out
  clear c0 c1 c2 c3
  refine region_inv 17 (JSwap W p fr tr fr tr no ae ak az ao ay ce ck cz co cy es ks kk ss yy _ _ _ _ _ _ _ _ _ _ _ _ _ _ _ _ _ _ _ _ _ _ _ _ _ _ _ _ _ _ _ _ _ _ _ _ _ _ _ _ _ _ _ _ _ _ _) (by kernel_rfl) (by kernel_rfl) (by kernel_rfl) ⟨false, false, false, false, false, false, false, false, false, false, false, false, false, false, false, false, false, false, rfl, rfl, _, _, _, _, _, _, _, _, _, _, _, _, _, _, _, _, _, rfl, R0.out, (fun h => by cases h), (fun h => by cases h), (fun h => by cases h), (fun h => by cases h), (fun h => by cases h), (fun h => by cases h), (fun h => by cases h), (fun h => by cases h), (fun h => by cases h), (fun h => by cases h), (fun h => by cases h), (fun h => by cases h), (fun h => by cases h), (fun h => by cases h), (fun h => by cases h), (fun h => by cases h), (fun h => by cases h)⟩ ?_ ?_ ?_
  · intro i f a w' hne hl hJ
    refine JSwap.elim hJ (C := fun f a w' => i ∈ Region.ready .any _ f.toArray → wpOp _ _ _ i (fun a' w'' => JSwap W p fr tr fr tr no ae ak az ao ay ce ck cz co cy es ks kk ss yy _ _ _ _ _ _ _ _ _ _ _ _ _ _ _ _ _ _ _ _ _ _ _ _ _ _ _ _ _ _ _ _ _ _ _ _ _ _ _ _ _ _ _ _ _ _ _ (f.set i true) a' w'') a w') ?_
    clear hJ hl f a
    intro f0 f1 f2 f3 f4 f5 f6 f7 f8 f9 f10 f11 f12 f13 f14 f15 f16 f17 x56 x57 x58 x59 x60 x61 x62 x63 x64 x65 x66 x67 x68 x69 x70 x71 x72 e17 hB h0 h1 h2 h3 h4 h5 h6 h7 h8 h9 h10 h11 h12 h13 h14 h15 h16 hi
    obtain ⟨hlt, hun, _⟩ := ready_mem hi
    have hlt' : i < 18 := hlt
    clear hlt
    rcases (by omega : i = 0 ∨ i = 1 ∨ i = 2 ∨ i = 3 ∨ i = 4 ∨ i = 5 ∨ i = 6 ∨ i = 7 ∨ i = 8 ∨ i = 9 ∨ i = 10 ∨ i = 11 ∨ i = 12 ∨ i = 13 ∨ i = 14 ∨ i = 15 ∨ i = 16) with rfl | rfl | rfl | rfl | rfl | rfl | rfl | rfl | rfl | rfl | rfl | rfl | rfl | rfl | rfl | rfl | rfl
    · have un : f0 = false := hun
      clear hun
      clear hi hne hlt'
      refine wpOp_step rfl (fun K hK => ?_)
      have HK : Shut _ := hK
      clear hK
      go_simp
      refine HK.out _ _ ?_
      exact ⟨true, f1, f2, f3, f4, f5, f6, f7, f8, f9, f10, f11, f12, f13, f14, f15, f16, f17, rfl, e17, _, _, _, _, _, _, _, _, _, _, _, _, _, _, _, _, _, rfl, hB, (fun _ => rfl), h1, h2, h3, h4, h5, h6, h7, h8, h9, h10, h11, h12, h13, h14, h15, h16⟩
    · have un : f1 = false := hun
      clear hun
      have d0 : f0 = true := ready_dep 0 hi (by kernel_rfl)
      have y0 := h0.out d0
      subst y0
      clear hi hne hlt'
      have cell := (MK.out _ hB).2.1
      refine wpOp_step rfl (fun K hK => ?_)
      have HK : Shut _ := hK
      clear hK
      go_simp
      refine HK.out _ _ ?_
      exact ⟨f0, true, f2, f3, f4, f5, f6, f7, f8, f9, f10, f11, f12, f13, f14, f15, f16, f17, rfl, e17, _, _, _, _, _, _, _, _, _, _, _, _, _, _, _, _, _, rfl, hB, h0, (fun _ => rfl), h2, h3, h4, h5, h6, h7, h8, h9, h10, h11, h12, h13, h14, h15, h16⟩
    · have un : f2 = false := hun
      clear hun
      have d1 : f1 = true := ready_dep 1 hi (by kernel_rfl)
      have y1 := h1.out d1
      subst y1
      clear hi hne hlt'
      refine wpOp_step rfl (fun K hK => ?_)
      have HK : Shut _ := hK
      clear hK
      go_simp
      refine HK.out _ _ ?_
      exact ⟨f0, f1, true, f3, f4, f5, f6, f7, f8, f9, f10, f11, f12, f13, f14, f15, f16, f17, rfl, e17, _, _, _, _, _, _, _, _, _, _, _, _, _, _, _, _, _, rfl, RB.alloc hB _, h0, h1, (fun _ => ⟨_, rfl, Cl.new _ _ _⟩), (fun d => let ⟨ao, n, c, e, o⟩ := h3.out d; ⟨ao, n, c, e, ownsRow_below o (belAlloc _ (Below.refl _ _))⟩), h4, h5, h6, h7, h8, (fun d => let ⟨ao, n, c, e, o⟩ := h9.out d; ⟨ao, n, c, e, ownsRow_below o (belAlloc _ (Below.refl _ _))⟩), h10, h11, h12, h13, h14, (fun d => let ⟨ao, n, c, e, o⟩ := h15.out d; ⟨ao, n, c, e, ownsRow_below o (belAlloc _ (Below.refl _ _))⟩), h16⟩
    · have un : f3 = false := hun
      clear hun
      have d2 : f2 = true := ready_dep 2 hi (by kernel_rfl)
      obtain ⟨q2, y2, c2⟩ := h2.out d2
      subst y2
      clear hi hne hlt'
      refine wpOp_step rfl (fun K hK => ?_)
      have HK : Shut _ := hK
      clear hK
      go_simp
      refine Calls.mono (joinedE1 q2 22 (.slice ae es.length ce) es w' c2 (RE.out _ hB) (by omega)) ?_
      rintro e w1 ⟨ao, nn, cc, rfl, ow, b1⟩
      refine HK.out _ _ ?_
      exact ⟨f0, f1, f2, true, f4, f5, f6, f7, f8, f9, f10, f11, f12, f13, f14, f15, f16, f17, rfl, e17, _, _, _, _, _, _, _, _, _, _, _, _, _, _, _, _, _, rfl, RB.call hB b1, h0, h1, (fun d => let ⟨q, e, c⟩ := h2.out d; ⟨q, e, Cl.on c (b1)⟩), (fun _ => ⟨ao, nn, cc, rfl, ownMono ow (RB.lt hB)⟩), h4, h5, h6, h7, h8, (fun d => let ⟨ao, n, c, e, o⟩ := h9.out d; ⟨ao, n, c, e, ownsRow_below o (b1)⟩), h10, h11, h12, h13, h14, (fun d => let ⟨ao, n, c, e, o⟩ := h15.out d; ⟨ao, n, c, e, ownsRow_below o (b1)⟩), (fun d => by have e := (h16.out d).1; rw [un] at e; cases e)⟩
    · have un : f4 = false := hun
      clear hun
      clear hi hne hlt'
      refine wpOp_step rfl (fun K hK => ?_)
      have HK : Shut _ := hK
      clear hK
      go_simp
      refine HK.out _ _ ?_
      exact ⟨f0, f1, f2, f3, true, f5, f6, f7, f8, f9, f10, f11, f12, f13, f14, f15, f16, f17, rfl, e17, _, _, _, _, _, _, _, _, _, _, _, _, _, _, _, _, _, rfl, hB, h0, h1, h2, h3, (fun _ => rfl), h5, h6, h7, h8, h9, h10, h11, h12, h13, h14, h15, h16⟩
    · have un : f5 = false := hun
      clear hun
      have d4 : f4 = true := ready_dep 4 hi (by kernel_rfl)
      have y4 := h4.out d4
      subst y4
      clear hi hne hlt'
      have cell := (MK.out _ hB).2.2.1
      refine wpOp_step rfl (fun K hK => ?_)
      have HK : Shut _ := hK
      clear hK
      go_simp
      refine HK.out _ _ ?_
      exact ⟨f0, f1, f2, f3, f4, true, f6, f7, f8, f9, f10, f11, f12, f13, f14, f15, f16, f17, rfl, e17, _, _, _, _, _, _, _, _, _, _, _, _, _, _, _, _, _, rfl, hB, h0, h1, h2, h3, h4, (fun _ => rfl), h6, h7, h8, h9, h10, h11, h12, h13, h14, h15, h16⟩
    · have un : f6 = false := hun
      clear hun
      clear hi hne hlt'
      refine wpOp_step rfl (fun K hK => ?_)
      have HK : Shut _ := hK
      clear hK
      go_simp
      refine HK.out _ _ ?_
      exact ⟨f0, f1, f2, f3, f4, f5, true, f7, f8, f9, f10, f11, f12, f13, f14, f15, f16, f17, rfl, e17, _, _, _, _, _, _, _, _, _, _, _, _, _, _, _, _, _, rfl, hB, h0, h1, h2, h3, h4, h5, (fun _ => rfl), h7, h8, h9, h10, h11, h12, h13, h14, h15, h16⟩
    · have un : f7 = false := hun
      clear hun
      clear hi hne hlt'
      refine wpOp_step rfl (fun K hK => ?_)
      have HK : Shut _ := hK
      clear hK
      go_simp
      refine HK.out _ _ ?_
      exact ⟨f0, f1, f2, f3, f4, f5, f6, true, f8, f9, f10, f11, f12, f13, f14, f15, f16, f17, rfl, e17, _, _, _, _, _, _, _, _, _, _, _, _, _, _, _, _, _, rfl, hB, h0, h1, h2, h3, h4, h5, h6, (fun _ => rfl), h8, h9, h10, h11, h12, h13, h14, h15, h16⟩
    · have un : f8 = false := hun
      clear hun
      clear hi hne hlt'
      refine wpOp_step rfl (fun K hK => ?_)
      have HK : Shut _ := hK
      clear hK
      go_simp
      refine HK.out _ _ ?_
      exact ⟨f0, f1, f2, f3, f4, f5, f6, f7, true, f9, f10, f11, f12, f13, f14, f15, f16, f17, rfl, e17, _, _, _, _, _, _, _, _, _, _, _, _, _, _, _, _, _, rfl, hB, h0, h1, h2, h3, h4, h5, h6, h7, (fun _ => rfl), h9, h10, h11, h12, h13, h14, h15, h16⟩
    · have un : f9 = false := hun
      clear hun
      have d5 : f5 = true := ready_dep 5 hi (by kernel_rfl)
      have y5 := h5.out d5
      subst y5
      have d6 : f6 = true := ready_dep 6 hi (by kernel_rfl)
      have y6 := h6.out d6
      subst y6
      have d7 : f7 = true := ready_dep 7 hi (by kernel_rfl)
      have y7 := h7.out d7
      subst y7
      have d8 : f8 = true := ready_dep 8 hi (by kernel_rfl)
      have y8 := h8.out d8
      subst y8
      clear hi hne hlt'
      refine wpOp_step rfl (fun K hK => ?_)
      have HK : Shut _ := hK
      clear hK
      go_simp
      refine Calls.mono (replacedI (.slice ak ks.length ck) (.slice ao no co) ks kk fr tr w' (RK.out _ hB) (RO.out _ hB) (by omega) (by omega) (by omega) (by omega)) ?_
      rintro e w1 ⟨ao, nn, cc, rfl, ow, b1⟩
      refine HK.out _ _ ?_
      exact ⟨f0, f1, f2, f3, f4, f5, f6, f7, f8, true, f10, f11, f12, f13, f14, f15, f16, f17, rfl, e17, _, _, _, _, _, _, _, _, _, _, _, _, _, _, _, _, _, rfl, RB.call hB b1, h0, h1, (fun d => let ⟨q, e, c⟩ := h2.out d; ⟨q, e, Cl.on c (b1)⟩), (fun d => let ⟨ao, n, c, e, o⟩ := h3.out d; ⟨ao, n, c, e, ownsRow_below o (b1)⟩), h4, h5, h6, h7, h8, (fun _ => ⟨ao, nn, cc, rfl, ownMono ow (RB.lt hB)⟩), h10, h11, h12, h13, h14, (fun d => let ⟨ao, n, c, e, o⟩ := h15.out d; ⟨ao, n, c, e, ownsRow_below o (b1)⟩), (fun d => by have e := (h16.out d).2.1; rw [un] at e; cases e)⟩
    · have un : f10 = false := hun
      clear hun
      clear hi hne hlt'
      refine wpOp_step rfl (fun K hK => ?_)
      have HK : Shut _ := hK
      clear hK
      go_simp
      refine HK.out _ _ ?_
      exact ⟨f0, f1, f2, f3, f4, f5, f6, f7, f8, f9, true, f11, f12, f13, f14, f15, f16, f17, rfl, e17, _, _, _, _, _, _, _, _, _, _, _, _, _, _, _, _, _, rfl, hB, h0, h1, h2, h3, h4, h5, h6, h7, h8, h9, (fun _ => rfl), h11, h12, h13, h14, h15, h16⟩
    · have un : f11 = false := hun
      clear hun
      have d10 : f10 = true := ready_dep 10 hi (by kernel_rfl)
      have y10 := h10.out d10
      subst y10
      clear hi hne hlt'
      have cell := (MK.out _ hB).2.2.2
      refine wpOp_step rfl (fun K hK => ?_)
      have HK : Shut _ := hK
      clear hK
      go_simp
      refine HK.out _ _ ?_
      exact ⟨f0, f1, f2, f3, f4, f5, f6, f7, f8, f9, f10, true, f12, f13, f14, f15, f16, f17, rfl, e17, _, _, _, _, _, _, _, _, _, _, _, _, _, _, _, _, _, rfl, hB, h0, h1, h2, h3, h4, h5, h6, h7, h8, h9, h10, (fun _ => rfl), h12, h13, h14, h15, h16⟩
    · have un : f12 = false := hun
      clear hun
      clear hi hne hlt'
      refine wpOp_step rfl (fun K hK => ?_)
      have HK : Shut _ := hK
      clear hK
      go_simp
      refine HK.out _ _ ?_
      exact ⟨f0, f1, f2, f3, f4, f5, f6, f7, f8, f9, f10, f11, true, f13, f14, f15, f16, f17, rfl, e17, _, _, _, _, _, _, _, _, _, _, _, _, _, _, _, _, _, rfl, hB, h0, h1, h2, h3, h4, h5, h6, h7, h8, h9, h10, h11, (fun _ => rfl), h13, h14, h15, h16⟩
    · have un : f13 = false := hun
      clear hun
      clear hi hne hlt'
      refine wpOp_step rfl (fun K hK => ?_)
      have HK : Shut _ := hK
      clear hK
      go_simp
      refine HK.out _ _ ?_
      exact ⟨f0, f1, f2, f3, f4, f5, f6, f7, f8, f9, f10, f11, f12, true, f14, f15, f16, f17, rfl, e17, _, _, _, _, _, _, _, _, _, _, _, _, _, _, _, _, _, rfl, hB, h0, h1, h2, h3, h4, h5, h6, h7, h8, h9, h10, h11, h12, (fun _ => rfl), h14, h15, h16⟩
    · have un : f14 = false := hun
      clear hun
      clear hi hne hlt'
      refine wpOp_step rfl (fun K hK => ?_)
      have HK : Shut _ := hK
      clear hK
      go_simp
      refine HK.out _ _ ?_
      exact ⟨f0, f1, f2, f3, f4, f5, f6, f7, f8, f9, f10, f11, f12, f13, true, f15, f16, f17, rfl, e17, _, _, _, _, _, _, _, _, _, _, _, _, _, _, _, _, _, rfl, hB, h0, h1, h2, h3, h4, h5, h6, h7, h8, h9, h10, h11, h12, h13, (fun _ => rfl), h15, h16⟩
    · have un : f15 = false := hun
      clear hun
      have d11 : f11 = true := ready_dep 11 hi (by kernel_rfl)
      have y11 := h11.out d11
      subst y11
      have d12 : f12 = true := ready_dep 12 hi (by kernel_rfl)
      have y12 := h12.out d12
      subst y12
      have d13 : f13 = true := ready_dep 13 hi (by kernel_rfl)
      have y13 := h13.out d13
      subst y13
      have d14 : f14 = true := ready_dep 14 hi (by kernel_rfl)
      have y14 := h14.out d14
      subst y14
      clear hi hne hlt'
      refine wpOp_step rfl (fun K hK => ?_)
      have HK : Shut _ := hK
      clear hK
      go_simp
      refine Calls.mono (replacedS (.slice az ss.length cz) (.slice ay yy.length cy) ss yy fr tr w' (RS.out _ hB) (RY.out _ hB) (by omega) (by omega) (by omega) (by omega)) ?_
      rintro e w1 ⟨ao, nn, cc, rfl, ow, b1⟩
      refine HK.out _ _ ?_
      exact ⟨f0, f1, f2, f3, f4, f5, f6, f7, f8, f9, f10, f11, f12, f13, f14, true, f16, f17, rfl, e17, _, _, _, _, _, _, _, _, _, _, _, _, _, _, _, _, _, rfl, RB.call hB b1, h0, h1, (fun d => let ⟨q, e, c⟩ := h2.out d; ⟨q, e, Cl.on c (b1)⟩), (fun d => let ⟨ao, n, c, e, o⟩ := h3.out d; ⟨ao, n, c, e, ownsRow_below o (b1)⟩), h4, h5, h6, h7, h8, (fun d => let ⟨ao, n, c, e, o⟩ := h9.out d; ⟨ao, n, c, e, ownsRow_below o (b1)⟩), h10, h11, h12, h13, h14, (fun _ => ⟨ao, nn, cc, rfl, ownMono ow (RB.lt hB)⟩), (fun d => by have e := (h16.out d).2.2.1; rw [un] at e; cases e)⟩
    · have un : f16 = false := hun
      clear hun
      have d3 : f3 = true := ready_dep 3 hi (by kernel_rfl)
      obtain ⟨a3, n3, m3, y3, o3⟩ := h3.out d3
      subst y3
      have d9 : f9 = true := ready_dep 9 hi (by kernel_rfl)
      obtain ⟨a9, n9, m9, y9, o9⟩ := h9.out d9
      subst y9
      have d15 : f15 = true := ready_dep 15 hi (by kernel_rfl)
      obtain ⟨a15, n15, m15, y15, o15⟩ := h15.out d15
      subst y15
      clear hi hne hlt'
      refine wpOp_step rfl (fun K hK => ?_)
      have HK : Shut _ := hK
      clear hK
      go_simp
      refine HK.out _ _ ?_
      exact ⟨f0, f1, f2, f3, f4, f5, f6, f7, f8, f9, f10, f11, f12, f13, f14, f15, true, f17, rfl, e17, _, _, _, _, _, _, _, _, _, _, _, _, _, _, _, _, _, rfl, hB, h0, h1, h2, h3, h4, h5, h6, h7, h8, h9, h10, h11, h12, h13, h14, h15, (fun _ => ⟨d3, d9, d15, rfl⟩)⟩
  · intro f a w' hl hJ
    refine JSwap.elim hJ (C := fun f a w' => 17 ∈ Region.ready .any _ f.toArray → wpOp _ _ _ 17 _ a w') ?_
    clear hJ hl f a
    intro f0 f1 f2 f3 f4 f5 f6 f7 f8 f9 f10 f11 f12 f13 f14 f15 f16 f17 x56 x57 x58 x59 x60 x61 x62 x63 x64 x65 x66 x67 x68 x69 x70 x71 x72 e17 hB h0 h1 h2 h3 h4 h5 h6 h7 h8 h9 h10 h11 h12 h13 h14 h15 h16 hi
    have d16 : f16 = true := ready_dep 16 hi (by kernel_rfl)
    obtain ⟨_, _, _, y16⟩ := h16.out d16
    subst y16
    have d3 : f3 = true := ready_dep 3 hi (by kernel_rfl)
    obtain ⟨a3, n3, m3, y3, o3⟩ := h3.out d3
    subst y3
    have d9 : f9 = true := ready_dep 9 hi (by kernel_rfl)
    obtain ⟨a9, n9, m9, y9, o9⟩ := h9.out d9
    subst y9
    have d15 : f15 = true := ready_dep 15 hi (by kernel_rfl)
    obtain ⟨a15, n15, m15, y15, o15⟩ := h15.out d15
    subst y15
    clear hi
    obtain ⟨⟨z0, y0⟩, ⟨z1, y1⟩, ⟨z2, y2⟩, ⟨z3, y3⟩, g0, g1, g2, g3⟩ := hB.four
    refine wpOp_step rfl (fun K hK => ?_)
    have HK : Shut _ := hK
    clear hK
    go_simp
    refine HK.out _ _ ?_
    have KF : Cl ((((w'.setCell ⟨p + 1, 0, none⟩ (.bool false)).setCell ⟨p + 1, 1, none⟩ (.slice a3 n3 m3)).setCell ⟨p + 1, 2, none⟩ (.slice a9 n9 m9)).setCell ⟨p + 1, 3, none⟩ (.slice a15 n15 m15)) (p + 1) #[.bool false, .slice a3 n3 m3, .slice a9 n9 m9, .slice a15 n15 m15] 26 := by
      obtain ⟨_, u0, u1, u2, u3, kc⟩ := hB
      exact kc.set4 _ _ _ _
    have BF : Hid (Below p w ((((w'.setCell ⟨p + 1, 0, none⟩ (.bool false)).setCell ⟨p + 1, 1, none⟩ (.slice a3 n3 m3)).setCell ⟨p + 1, 2, none⟩ (.slice a9 n9 m9)).setCell ⟨p + 1, 3, none⟩ (.slice a15 n15 m15))) := belSet4 (HBX.out _ hB) (Nat.le_succ p)
    have OF : Hid (NdO p ((((w'.setCell ⟨p + 1, 0, none⟩ (.bool false)).setCell ⟨p + 1, 1, none⟩ (.slice a3 n3 m3)).setCell ⟨p + 1, 2, none⟩ (.slice a9 n9 m9)).setCell ⟨p + 1, 3, none⟩ (.slice a15 n15 m15)) (.slice a3 n3 m3) (.slice a9 n9 m9) (.slice a15 n15 m15) ⟨false, es, rpL ks fr tr kk, rpL ss fr tr yy⟩) := ⟨ownMono (ownSet4 o3 (Nat.lt_succ_self _)) (by omega), ownMono (ownSet4 o9 (Nat.lt_succ_self _)) (by omega), ownMono (ownSet4 o15 (Nat.lt_succ_self _)) (by omega)⟩
    generalize ((((w'.setCell ⟨p + 1, 0, none⟩ (.bool false)).setCell ⟨p + 1, 1, none⟩ (.slice a3 n3 m3)).setCell ⟨p + 1, 2, none⟩ (.slice a9 n9 m9)).setCell ⟨p + 1, 3, none⟩ (.slice a15 n15 m15)) = X at *
    obtain ⟨k0, k1, k2, k3⟩ := KF.four
    clear y0 y1 y2 y3 g0 g1 g2 g3 hB h0 h1 h2 h3 h4 h5 h6 h7 h8 h9 h10 h11 h12 h13 h14 h15 h16
    go_wp2
    refine bodyPost_ret (v := .agg #[.bool false, .slice a3 n3 m3, .slice a9 n9 m9, .slice a15 n15 m15]) ?_ rfl ⟨_, _, _, rfl, by rw [hp]; exact OF.out, by rw [hp]; exact BF.out⟩
    rw [results_cell rfl]
    go_simp
  · rintro f a w' ⟨f0, f1, f2, f3, f4, f5, f6, f7, f8, f9, f10, f11, f12, f13, f14, f15, f16, f17, rfl, rfl, _⟩
    rfl
set_option maxHeartbeats 4000000 in
set_option maxRecDepth 100000 in
theorem swap_n1 (n : Nd) (fr tr : Int) (kk : List Int) (yy : List ByteArray) (ve vk vs vo vy : Value) (w : World) (h1 : NdR w ve vk vs n) (hm1 : SmL n) (hkk : Row encI 1 w vo kk) (hyy : Row encS 1 w vy yy) (lf : Bool) (hlf : n.leaf = lf) (hkl : kk.length ≤ 1000) (q1 : fr < 0) :
    Calls Try.prog 26 #[.agg #[.bool n.leaf, ve, vk, vs], .int .i64 fr, .int .i64 tr, vo, vy] w (GvN w n) := by
  obtain ⟨ae, ce, rfl, _⟩ := rowShape h1.e
  obtain ⟨ak, ck, rfl, _⟩ := rowShape h1.k
  obtain ⟨az, cz, rfl, _⟩ := rowShape h1.s
  obtain ⟨ao, co, rfl, _⟩ := rowShape hkk
  obtain ⟨ay, cy, rfl, _⟩ := rowShape hyy
  have BW : Hid (Below w.heap.size w ((w.alloc (.cells #[.bool lf, .slice ae n.es.length ce, .slice ak n.ks.length ck, .slice az n.ss.length cz] 26)).alloc (.cells #[.bool false, .slice none 0 0, .slice none 0 0, .slice none 0 0] 26))) := belAlloc _ (belAlloc _ (Below.refl _ _))
  have K1 : Cl ((w.alloc (.cells #[.bool lf, .slice ae n.es.length ce, .slice ak n.ks.length ck, .slice az n.ss.length cz] 26)).alloc (.cells #[.bool false, .slice none 0 0, .slice none 0 0, .slice none 0 0] 26)) w.heap.size #[.bool lf, .slice ae n.es.length ce, .slice ak n.ks.length ck, .slice az n.ss.length cz] 26 := (Cl.new0 _ _ _).alloc _
  have K3 : Cl ((w.alloc (.cells #[.bool lf, .slice ae n.es.length ce, .slice ak n.ks.length ck, .slice az n.ss.length cz] 26)).alloc (.cells #[.bool false, .slice none 0 0, .slice none 0 0, .slice none 0 0] 26)) (w.heap.size + 1) #[.bool false, .slice none 0 0, .slice none 0 0, .slice none 0 0] 26 := Cl.new1 _ _ _ _
  have C : Hid _ := alone_any n _ _ _ ((w.alloc (.cells #[.bool lf, .slice ae n.es.length ce, .slice ak n.ks.length ck, .slice az n.ss.length cz] 26)).alloc (.cells #[.bool false, .slice none 0 0, .slice none 0 0, .slice none 0 0] 26)) (h1.below BW.out) hm1
  rw [hlf] at C ⊢
  have HL : Hid (n.leaf = lf) := hlf
  generalize n.es.length = n1 at *
  generalize n.ks.length = n2 at *
  generalize n.ss.length = n3 at *
  generalize kk.length = n4 at *
  generalize yy.length = n5 at *
  clear h1 hlf hkk hyy
  go_enter Try.func26, Try.ntmps26
  go_upto_region 1 with fail
  generalize ((w.alloc (.cells #[.bool lf, .slice ae n1 ce, .slice ak n2 ck, .slice az n3 cz] 26)).alloc (.cells #[.bool false, .slice none 0 0, .slice none 0 0, .slice none 0 0] 26)) = W at *
  obtain ⟨p, hp⟩ : ∃ p, w.heap.size = p := ⟨_, rfl⟩
  rw [hp] at K1 K3 BW ⊢
  obtain ⟨c0, c1, c2, c3⟩ := K1.four
  have l1 := K3.lt
  have HP : Hid (w.heap.size = p) := hp
  clear K1 hp
  go_wp2_with fail
  refine Calls.mono C.out ?_
  rintro e w1 ⟨ve', vk', vs', rfl, O1, B1⟩
  obtain ⟨av, cv, rfl⟩ := ownShape O1.e
  obtain ⟨bv, dv, rfl⟩ := ownShape O1.k
  obtain ⟨gv, hv, rfl⟩ := ownShape O1.s
  have K4 : Cl w1 (p + 1) #[.bool false, .slice none 0 0, .slice none 0 0, .slice none 0 0] 26 := K3.on B1
  obtain ⟨f0, f1, f2, f3⟩ := K4.four
  obtain ⟨g0, g1, g2, g3⟩ := K4.thaw
  have KF : Cl ((((w1.setCell ⟨p + 1, 0, none⟩ (.bool lf)).setCell ⟨p + 1, 1, none⟩ (.slice av n.es.length cv)).setCell ⟨p + 1, 2, none⟩ (.slice bv n.ks.length dv)).setCell ⟨p + 1, 3, none⟩ (.slice gv n.ss.length hv)) (p + 1) #[.bool lf, .slice av n.es.length cv, .slice bv n.ks.length dv, .slice gv n.ss.length hv] 26 := K4.set4 _ _ _ _
  have BF : Hid (Below p w ((((w1.setCell ⟨p + 1, 0, none⟩ (.bool lf)).setCell ⟨p + 1, 1, none⟩ (.slice av n.es.length cv)).setCell ⟨p + 1, 2, none⟩ (.slice bv n.ks.length dv)).setCell ⟨p + 1, 3, none⟩ (.slice gv n.ss.length hv))) := belSet4 (BW.out.trans (B1.mono (by omega))) (by omega)
  have OF : Hid (NdO p ((((w1.setCell ⟨p + 1, 0, none⟩ (.bool lf)).setCell ⟨p + 1, 1, none⟩ (.slice av n.es.length cv)).setCell ⟨p + 1, 2, none⟩ (.slice bv n.ks.length dv)).setCell ⟨p + 1, 3, none⟩ (.slice gv n.ss.length hv)) (.slice av n.es.length cv) (.slice bv n.ks.length dv) (.slice gv n.ss.length hv) n) := ⟨ownMono (ownSet4 O1.e l1) (by omega), ownMono (ownSet4 O1.k l1) (by omega), ownMono (ownSet4 O1.s l1) (by omega)⟩
  clear C B1 O1 K3 K4 c0 c1 c2 c3
  go_wp2
  (try simp only [Exit.inBlock, Exit.then])
  generalize ((((w1.setCell ⟨p + 1, 0, none⟩ (.bool lf)).setCell ⟨p + 1, 1, none⟩ (.slice av n.es.length cv)).setCell ⟨p + 1, 2, none⟩ (.slice bv n.ks.length dv)).setCell ⟨p + 1, 3, none⟩ (.slice gv n.ss.length hv)) = X at *
  obtain ⟨k0, k1, k2, k3⟩ := KF.four
  refine bodyPost_ret (v := .agg #[.bool lf, .slice av n.es.length cv, .slice bv n.ks.length dv, .slice gv n.ss.length hv]) ?_ rfl ⟨_, _, _, by rw [HL.out], by rw [HP.out]; exact OF.out, by rw [HP.out]; exact BF.out⟩
  rw [results_cell rfl]
  go_simp

set_option maxHeartbeats 4000000 in
set_option maxRecDepth 100000 in
theorem swap_n2 (n : Nd) (fr tr : Int) (kk : List Int) (yy : List ByteArray) (ve vk vs vo vy : Value) (w : World) (h1 : NdR w ve vk vs n) (hm1 : SmL n) (hkk : Row encI 1 w vo kk) (hyy : Row encS 1 w vy yy) (lf : Bool) (hlf : n.leaf = lf) (hkl : kk.length ≤ 1000) (q1 : ¬ fr < 0) (q2 : (n.ks.length : Int) < tr) :
    Calls Try.prog 26 #[.agg #[.bool n.leaf, ve, vk, vs], .int .i64 fr, .int .i64 tr, vo, vy] w (GvN w n) := by
  obtain ⟨ae, ce, rfl, _⟩ := rowShape h1.e
  obtain ⟨ak, ck, rfl, _⟩ := rowShape h1.k
  obtain ⟨az, cz, rfl, _⟩ := rowShape h1.s
  obtain ⟨ao, co, rfl, _⟩ := rowShape hkk
  obtain ⟨ay, cy, rfl, _⟩ := rowShape hyy
  have BW : Hid (Below w.heap.size w ((w.alloc (.cells #[.bool lf, .slice ae n.es.length ce, .slice ak n.ks.length ck, .slice az n.ss.length cz] 26)).alloc (.cells #[.bool false, .slice none 0 0, .slice none 0 0, .slice none 0 0] 26))) := belAlloc _ (belAlloc _ (Below.refl _ _))
  have K1 : Cl ((w.alloc (.cells #[.bool lf, .slice ae n.es.length ce, .slice ak n.ks.length ck, .slice az n.ss.length cz] 26)).alloc (.cells #[.bool false, .slice none 0 0, .slice none 0 0, .slice none 0 0] 26)) w.heap.size #[.bool lf, .slice ae n.es.length ce, .slice ak n.ks.length ck, .slice az n.ss.length cz] 26 := (Cl.new0 _ _ _).alloc _
  have K3 : Cl ((w.alloc (.cells #[.bool lf, .slice ae n.es.length ce, .slice ak n.ks.length ck, .slice az n.ss.length cz] 26)).alloc (.cells #[.bool false, .slice none 0 0, .slice none 0 0, .slice none 0 0] 26)) (w.heap.size + 1) #[.bool false, .slice none 0 0, .slice none 0 0, .slice none 0 0] 26 := Cl.new1 _ _ _ _
  have C : Hid _ := alone_any n _ _ _ ((w.alloc (.cells #[.bool lf, .slice ae n.es.length ce, .slice ak n.ks.length ck, .slice az n.ss.length cz] 26)).alloc (.cells #[.bool false, .slice none 0 0, .slice none 0 0, .slice none 0 0] 26)) (h1.below BW.out) hm1
  rw [hlf] at C ⊢
  have HL : Hid (n.leaf = lf) := hlf
  generalize n.es.length = n1 at *
  generalize n.ks.length = n2 at *
  generalize n.ss.length = n3 at *
  generalize kk.length = n4 at *
  generalize yy.length = n5 at *
  clear h1 hlf hkk hyy
  go_enter Try.func26, Try.ntmps26
  go_upto_region 1 with fail
  generalize ((w.alloc (.cells #[.bool lf, .slice ae n1 ce, .slice ak n2 ck, .slice az n3 cz] 26)).alloc (.cells #[.bool false, .slice none 0 0, .slice none 0 0, .slice none 0 0] 26)) = W at *
  obtain ⟨p, hp⟩ : ∃ p, w.heap.size = p := ⟨_, rfl⟩
  rw [hp] at K1 K3 BW ⊢
  obtain ⟨c0, c1, c2, c3⟩ := K1.four
  have l1 := K3.lt
  have HP : Hid (w.heap.size = p) := hp
  clear K1 hp
  go_wp2_with fail
  refine Calls.mono C.out ?_
  rintro e w1 ⟨ve', vk', vs', rfl, O1, B1⟩
  obtain ⟨av, cv, rfl⟩ := ownShape O1.e
  obtain ⟨bv, dv, rfl⟩ := ownShape O1.k
  obtain ⟨gv, hv, rfl⟩ := ownShape O1.s
  have K4 : Cl w1 (p + 1) #[.bool false, .slice none 0 0, .slice none 0 0, .slice none 0 0] 26 := K3.on B1
  obtain ⟨f0, f1, f2, f3⟩ := K4.four
  obtain ⟨g0, g1, g2, g3⟩ := K4.thaw
  have KF : Cl ((((w1.setCell ⟨p + 1, 0, none⟩ (.bool lf)).setCell ⟨p + 1, 1, none⟩ (.slice av n.es.length cv)).setCell ⟨p + 1, 2, none⟩ (.slice bv n.ks.length dv)).setCell ⟨p + 1, 3, none⟩ (.slice gv n.ss.length hv)) (p + 1) #[.bool lf, .slice av n.es.length cv, .slice bv n.ks.length dv, .slice gv n.ss.length hv] 26 := K4.set4 _ _ _ _
  have BF : Hid (Below p w ((((w1.setCell ⟨p + 1, 0, none⟩ (.bool lf)).setCell ⟨p + 1, 1, none⟩ (.slice av n.es.length cv)).setCell ⟨p + 1, 2, none⟩ (.slice bv n.ks.length dv)).setCell ⟨p + 1, 3, none⟩ (.slice gv n.ss.length hv))) := belSet4 (BW.out.trans (B1.mono (by omega))) (by omega)
  have OF : Hid (NdO p ((((w1.setCell ⟨p + 1, 0, none⟩ (.bool lf)).setCell ⟨p + 1, 1, none⟩ (.slice av n.es.length cv)).setCell ⟨p + 1, 2, none⟩ (.slice bv n.ks.length dv)).setCell ⟨p + 1, 3, none⟩ (.slice gv n.ss.length hv)) (.slice av n.es.length cv) (.slice bv n.ks.length dv) (.slice gv n.ss.length hv) n) := ⟨ownMono (ownSet4 O1.e l1) (by omega), ownMono (ownSet4 O1.k l1) (by omega), ownMono (ownSet4 O1.s l1) (by omega)⟩
  clear C B1 O1 K3 K4 c0 c1 c2 c3
  go_wp2
  (try simp only [Exit.inBlock, Exit.then])
  generalize ((((w1.setCell ⟨p + 1, 0, none⟩ (.bool lf)).setCell ⟨p + 1, 1, none⟩ (.slice av n.es.length cv)).setCell ⟨p + 1, 2, none⟩ (.slice bv n.ks.length dv)).setCell ⟨p + 1, 3, none⟩ (.slice gv n.ss.length hv)) = X at *
  obtain ⟨k0, k1, k2, k3⟩ := KF.four
  refine bodyPost_ret (v := .agg #[.bool lf, .slice av n.es.length cv, .slice bv n.ks.length dv, .slice gv n.ss.length hv]) ?_ rfl ⟨_, _, _, by rw [HL.out], by rw [HP.out]; exact OF.out, by rw [HP.out]; exact BF.out⟩
  rw [results_cell rfl]
  go_simp

set_option maxHeartbeats 4000000 in
set_option maxRecDepth 100000 in
theorem swap_n3 (n : Nd) (fr tr : Int) (kk : List Int) (yy : List ByteArray) (ve vk vs vo vy : Value) (w : World) (h1 : NdR w ve vk vs n) (hm1 : SmL n) (hkk : Row encI 1 w vo kk) (hyy : Row encS 1 w vy yy) (lf : Bool) (hlf : n.leaf = lf) (hkl : kk.length ≤ 1000) (q1 : ¬ fr < 0) (q2 : ¬ (n.ks.length : Int) < tr) (q3 : tr ≤ fr) :
    Calls Try.prog 26 #[.agg #[.bool n.leaf, ve, vk, vs], .int .i64 fr, .int .i64 tr, vo, vy] w (GvN w n) := by
  obtain ⟨ae, ce, rfl, _⟩ := rowShape h1.e
  obtain ⟨ak, ck, rfl, _⟩ := rowShape h1.k
  obtain ⟨az, cz, rfl, _⟩ := rowShape h1.s
  obtain ⟨ao, co, rfl, _⟩ := rowShape hkk
  obtain ⟨ay, cy, rfl, _⟩ := rowShape hyy
  have BW : Hid (Below w.heap.size w ((w.alloc (.cells #[.bool lf, .slice ae n.es.length ce, .slice ak n.ks.length ck, .slice az n.ss.length cz] 26)).alloc (.cells #[.bool false, .slice none 0 0, .slice none 0 0, .slice none 0 0] 26))) := belAlloc _ (belAlloc _ (Below.refl _ _))
  have K1 : Cl ((w.alloc (.cells #[.bool lf, .slice ae n.es.length ce, .slice ak n.ks.length ck, .slice az n.ss.length cz] 26)).alloc (.cells #[.bool false, .slice none 0 0, .slice none 0 0, .slice none 0 0] 26)) w.heap.size #[.bool lf, .slice ae n.es.length ce, .slice ak n.ks.length ck, .slice az n.ss.length cz] 26 := (Cl.new0 _ _ _).alloc _
  have K3 : Cl ((w.alloc (.cells #[.bool lf, .slice ae n.es.length ce, .slice ak n.ks.length ck, .slice az n.ss.length cz] 26)).alloc (.cells #[.bool false, .slice none 0 0, .slice none 0 0, .slice none 0 0] 26)) (w.heap.size + 1) #[.bool false, .slice none 0 0, .slice none 0 0, .slice none 0 0] 26 := Cl.new1 _ _ _ _
  have C : Hid _ := alone_any n _ _ _ ((w.alloc (.cells #[.bool lf, .slice ae n.es.length ce, .slice ak n.ks.length ck, .slice az n.ss.length cz] 26)).alloc (.cells #[.bool false, .slice none 0 0, .slice none 0 0, .slice none 0 0] 26)) (h1.below BW.out) hm1
  rw [hlf] at C ⊢
  have HL : Hid (n.leaf = lf) := hlf
  generalize n.es.length = n1 at *
  generalize n.ks.length = n2 at *
  generalize n.ss.length = n3 at *
  generalize kk.length = n4 at *
  generalize yy.length = n5 at *
  clear h1 hlf hkk hyy
  go_enter Try.func26, Try.ntmps26
  go_upto_region 1 with fail
  generalize ((w.alloc (.cells #[.bool lf, .slice ae n1 ce, .slice ak n2 ck, .slice az n3 cz] 26)).alloc (.cells #[.bool false, .slice none 0 0, .slice none 0 0, .slice none 0 0] 26)) = W at *
  obtain ⟨p, hp⟩ : ∃ p, w.heap.size = p := ⟨_, rfl⟩
  rw [hp] at K1 K3 BW ⊢
  obtain ⟨c0, c1, c2, c3⟩ := K1.four
  have l1 := K3.lt
  have HP : Hid (w.heap.size = p) := hp
  clear K1 hp
  go_wp2_with fail
  refine Calls.mono C.out ?_
  rintro e w1 ⟨ve', vk', vs', rfl, O1, B1⟩
  obtain ⟨av, cv, rfl⟩ := ownShape O1.e
  obtain ⟨bv, dv, rfl⟩ := ownShape O1.k
  obtain ⟨gv, hv, rfl⟩ := ownShape O1.s
  have K4 : Cl w1 (p + 1) #[.bool false, .slice none 0 0, .slice none 0 0, .slice none 0 0] 26 := K3.on B1
  obtain ⟨f0, f1, f2, f3⟩ := K4.four
  obtain ⟨g0, g1, g2, g3⟩ := K4.thaw
  have KF : Cl ((((w1.setCell ⟨p + 1, 0, none⟩ (.bool lf)).setCell ⟨p + 1, 1, none⟩ (.slice av n.es.length cv)).setCell ⟨p + 1, 2, none⟩ (.slice bv n.ks.length dv)).setCell ⟨p + 1, 3, none⟩ (.slice gv n.ss.length hv)) (p + 1) #[.bool lf, .slice av n.es.length cv, .slice bv n.ks.length dv, .slice gv n.ss.length hv] 26 := K4.set4 _ _ _ _
  have BF : Hid (Below p w ((((w1.setCell ⟨p + 1, 0, none⟩ (.bool lf)).setCell ⟨p + 1, 1, none⟩ (.slice av n.es.length cv)).setCell ⟨p + 1, 2, none⟩ (.slice bv n.ks.length dv)).setCell ⟨p + 1, 3, none⟩ (.slice gv n.ss.length hv))) := belSet4 (BW.out.trans (B1.mono (by omega))) (by omega)
  have OF : Hid (NdO p ((((w1.setCell ⟨p + 1, 0, none⟩ (.bool lf)).setCell ⟨p + 1, 1, none⟩ (.slice av n.es.length cv)).setCell ⟨p + 1, 2, none⟩ (.slice bv n.ks.length dv)).setCell ⟨p + 1, 3, none⟩ (.slice gv n.ss.length hv)) (.slice av n.es.length cv) (.slice bv n.ks.length dv) (.slice gv n.ss.length hv) n) := ⟨ownMono (ownSet4 O1.e l1) (by omega), ownMono (ownSet4 O1.k l1) (by omega), ownMono (ownSet4 O1.s l1) (by omega)⟩
  clear C B1 O1 K3 K4 c0 c1 c2 c3
  go_wp2
  (try simp only [Exit.inBlock, Exit.then])
  generalize ((((w1.setCell ⟨p + 1, 0, none⟩ (.bool lf)).setCell ⟨p + 1, 1, none⟩ (.slice av n.es.length cv)).setCell ⟨p + 1, 2, none⟩ (.slice bv n.ks.length dv)).setCell ⟨p + 1, 3, none⟩ (.slice gv n.ss.length hv)) = X at *
  obtain ⟨k0, k1, k2, k3⟩ := KF.four
  refine bodyPost_ret (v := .agg #[.bool lf, .slice av n.es.length cv, .slice bv n.ks.length dv, .slice gv n.ss.length hv]) ?_ rfl ⟨_, _, _, by rw [HL.out], by rw [HP.out]; exact OF.out, by rw [HP.out]; exact BF.out⟩
  rw [results_cell rfl]
  go_simp

set_option maxHeartbeats 4000000 in
set_option maxRecDepth 100000 in
theorem swap_n4 (n : Nd) (fr tr : Int) (kk : List Int) (yy : List ByteArray) (ve vk vs vo vy : Value) (w : World) (h1 : NdR w ve vk vs n) (hm1 : SmL n) (hkk : Row encI 1 w vo kk) (hyy : Row encS 1 w vy yy) (lf : Bool) (hlf : n.leaf = lf) (hkl : kk.length ≤ 1000) (q1 : ¬ fr < 0) (q2 : ¬ (n.ks.length : Int) < tr) (q3 : ¬ tr ≤ fr) (q4 : ((yy.length : Int) != max ((kk.length : Int) - 1) 0) = true) :
    Calls Try.prog 26 #[.agg #[.bool n.leaf, ve, vk, vs], .int .i64 fr, .int .i64 tr, vo, vy] w (GvN w n) := by
  obtain ⟨ae, ce, rfl, _⟩ := rowShape h1.e
  obtain ⟨ak, ck, rfl, _⟩ := rowShape h1.k
  obtain ⟨az, cz, rfl, _⟩ := rowShape h1.s
  obtain ⟨ao, co, rfl, _⟩ := rowShape hkk
  obtain ⟨ay, cy, rfl, _⟩ := rowShape hyy
  have BW : Hid (Below w.heap.size w ((w.alloc (.cells #[.bool lf, .slice ae n.es.length ce, .slice ak n.ks.length ck, .slice az n.ss.length cz] 26)).alloc (.cells #[.bool false, .slice none 0 0, .slice none 0 0, .slice none 0 0] 26))) := belAlloc _ (belAlloc _ (Below.refl _ _))
  have K1 : Cl ((w.alloc (.cells #[.bool lf, .slice ae n.es.length ce, .slice ak n.ks.length ck, .slice az n.ss.length cz] 26)).alloc (.cells #[.bool false, .slice none 0 0, .slice none 0 0, .slice none 0 0] 26)) w.heap.size #[.bool lf, .slice ae n.es.length ce, .slice ak n.ks.length ck, .slice az n.ss.length cz] 26 := (Cl.new0 _ _ _).alloc _
  have K3 : Cl ((w.alloc (.cells #[.bool lf, .slice ae n.es.length ce, .slice ak n.ks.length ck, .slice az n.ss.length cz] 26)).alloc (.cells #[.bool false, .slice none 0 0, .slice none 0 0, .slice none 0 0] 26)) (w.heap.size + 1) #[.bool false, .slice none 0 0, .slice none 0 0, .slice none 0 0] 26 := Cl.new1 _ _ _ _
  have C : Hid _ := alone_any n _ _ _ ((w.alloc (.cells #[.bool lf, .slice ae n.es.length ce, .slice ak n.ks.length ck, .slice az n.ss.length cz] 26)).alloc (.cells #[.bool false, .slice none 0 0, .slice none 0 0, .slice none 0 0] 26)) (h1.below BW.out) hm1
  rw [hlf] at C ⊢
  have HL : Hid (n.leaf = lf) := hlf
  generalize n.es.length = n1 at *
  generalize n.ks.length = n2 at *
  generalize n.ss.length = n3 at *
  generalize kk.length = n4 at *
  generalize yy.length = n5 at *
  clear h1 hlf hkk hyy
  go_enter Try.func26, Try.ntmps26
  go_upto_region 1 with fail
  generalize ((w.alloc (.cells #[.bool lf, .slice ae n1 ce, .slice ak n2 ck, .slice az n3 cz] 26)).alloc (.cells #[.bool false, .slice none 0 0, .slice none 0 0, .slice none 0 0] 26)) = W at *
  obtain ⟨p, hp⟩ : ∃ p, w.heap.size = p := ⟨_, rfl⟩
  rw [hp] at K1 K3 BW ⊢
  obtain ⟨c0, c1, c2, c3⟩ := K1.four
  have l1 := K3.lt
  have HP : Hid (w.heap.size = p) := hp
  clear K1 hp
  go_wp2_with fail
  refine Calls.mono C.out ?_
  rintro e w1 ⟨ve', vk', vs', rfl, O1, B1⟩
  obtain ⟨av, cv, rfl⟩ := ownShape O1.e
  obtain ⟨bv, dv, rfl⟩ := ownShape O1.k
  obtain ⟨gv, hv, rfl⟩ := ownShape O1.s
  have K4 : Cl w1 (p + 1) #[.bool false, .slice none 0 0, .slice none 0 0, .slice none 0 0] 26 := K3.on B1
  obtain ⟨f0, f1, f2, f3⟩ := K4.four
  obtain ⟨g0, g1, g2, g3⟩ := K4.thaw
  have KF : Cl ((((w1.setCell ⟨p + 1, 0, none⟩ (.bool lf)).setCell ⟨p + 1, 1, none⟩ (.slice av n.es.length cv)).setCell ⟨p + 1, 2, none⟩ (.slice bv n.ks.length dv)).setCell ⟨p + 1, 3, none⟩ (.slice gv n.ss.length hv)) (p + 1) #[.bool lf, .slice av n.es.length cv, .slice bv n.ks.length dv, .slice gv n.ss.length hv] 26 := K4.set4 _ _ _ _
  have BF : Hid (Below p w ((((w1.setCell ⟨p + 1, 0, none⟩ (.bool lf)).setCell ⟨p + 1, 1, none⟩ (.slice av n.es.length cv)).setCell ⟨p + 1, 2, none⟩ (.slice bv n.ks.length dv)).setCell ⟨p + 1, 3, none⟩ (.slice gv n.ss.length hv))) := belSet4 (BW.out.trans (B1.mono (by omega))) (by omega)
  have OF : Hid (NdO p ((((w1.setCell ⟨p + 1, 0, none⟩ (.bool lf)).setCell ⟨p + 1, 1, none⟩ (.slice av n.es.length cv)).setCell ⟨p + 1, 2, none⟩ (.slice bv n.ks.length dv)).setCell ⟨p + 1, 3, none⟩ (.slice gv n.ss.length hv)) (.slice av n.es.length cv) (.slice bv n.ks.length dv) (.slice gv n.ss.length hv) n) := ⟨ownMono (ownSet4 O1.e l1) (by omega), ownMono (ownSet4 O1.k l1) (by omega), ownMono (ownSet4 O1.s l1) (by omega)⟩
  clear C B1 O1 K3 K4 c0 c1 c2 c3
  go_wp2
  (try simp only [Exit.inBlock, Exit.then])
  generalize ((((w1.setCell ⟨p + 1, 0, none⟩ (.bool lf)).setCell ⟨p + 1, 1, none⟩ (.slice av n.es.length cv)).setCell ⟨p + 1, 2, none⟩ (.slice bv n.ks.length dv)).setCell ⟨p + 1, 3, none⟩ (.slice gv n.ss.length hv)) = X at *
  obtain ⟨k0, k1, k2, k3⟩ := KF.four
  refine bodyPost_ret (v := .agg #[.bool lf, .slice av n.es.length cv, .slice bv n.ks.length dv, .slice gv n.ss.length hv]) ?_ rfl ⟨_, _, _, by rw [HL.out], by rw [HP.out]; exact OF.out, by rw [HP.out]; exact BF.out⟩
  rw [results_cell rfl]
  go_simp

set_option maxHeartbeats 4000000 in
set_option maxRecDepth 100000 in
theorem swap_n5 (n : Nd) (fr tr : Int) (kk : List Int) (yy : List ByteArray) (ve vk vs vo vy : Value) (w : World) (h1 : NdR w ve vk vs n) (hm1 : SmL n) (hkk : Row encI 1 w vo kk) (hyy : Row encS 1 w vy yy) (hlf : n.leaf = true) (hkl : kk.length ≤ 1000) (q1 : ¬ fr < 0) (q2 : ¬ (n.ks.length : Int) < tr) (q3 : ¬ tr ≤ fr) (q4 : ((yy.length : Int) != max ((kk.length : Int) - 1) 0) = false) :
    Calls Try.prog 26 #[.agg #[.bool n.leaf, ve, vk, vs], .int .i64 fr, .int .i64 tr, vo, vy] w (GvN w n) := by
  obtain ⟨ae, ce, rfl, _⟩ := rowShape h1.e
  obtain ⟨ak, ck, rfl, _⟩ := rowShape h1.k
  obtain ⟨az, cz, rfl, _⟩ := rowShape h1.s
  obtain ⟨ao, co, rfl, _⟩ := rowShape hkk
  obtain ⟨ay, cy, rfl, _⟩ := rowShape hyy
  have BW : Hid (Below w.heap.size w ((w.alloc (.cells #[.bool true, .slice ae n.es.length ce, .slice ak n.ks.length ck, .slice az n.ss.length cz] 26)).alloc (.cells #[.bool false, .slice none 0 0, .slice none 0 0, .slice none 0 0] 26))) := belAlloc _ (belAlloc _ (Below.refl _ _))
  have K1 : Cl ((w.alloc (.cells #[.bool true, .slice ae n.es.length ce, .slice ak n.ks.length ck, .slice az n.ss.length cz] 26)).alloc (.cells #[.bool false, .slice none 0 0, .slice none 0 0, .slice none 0 0] 26)) w.heap.size #[.bool true, .slice ae n.es.length ce, .slice ak n.ks.length ck, .slice az n.ss.length cz] 26 := (Cl.new0 _ _ _).alloc _
  have K3 : Cl ((w.alloc (.cells #[.bool true, .slice ae n.es.length ce, .slice ak n.ks.length ck, .slice az n.ss.length cz] 26)).alloc (.cells #[.bool false, .slice none 0 0, .slice none 0 0, .slice none 0 0] 26)) (w.heap.size + 1) #[.bool false, .slice none 0 0, .slice none 0 0, .slice none 0 0] 26 := Cl.new1 _ _ _ _
  have C : Hid _ := alone_any n _ _ _ ((w.alloc (.cells #[.bool true, .slice ae n.es.length ce, .slice ak n.ks.length ck, .slice az n.ss.length cz] 26)).alloc (.cells #[.bool false, .slice none 0 0, .slice none 0 0, .slice none 0 0] 26)) (h1.below BW.out) hm1
  rw [hlf] at C ⊢
  have HL : Hid (n.leaf = true) := hlf
  generalize n.es.length = n1 at *
  generalize n.ks.length = n2 at *
  generalize n.ss.length = n3 at *
  generalize kk.length = n4 at *
  generalize yy.length = n5 at *
  clear h1 hlf hkk hyy
  go_enter Try.func26, Try.ntmps26
  go_upto_region 1 with fail
  generalize ((w.alloc (.cells #[.bool true, .slice ae n1 ce, .slice ak n2 ck, .slice az n3 cz] 26)).alloc (.cells #[.bool false, .slice none 0 0, .slice none 0 0, .slice none 0 0] 26)) = W at *
  obtain ⟨p, hp⟩ : ∃ p, w.heap.size = p := ⟨_, rfl⟩
  rw [hp] at K1 K3 BW ⊢
  obtain ⟨c0, c1, c2, c3⟩ := K1.four
  have l1 := K3.lt
  have HP : Hid (w.heap.size = p) := hp
  clear K1 hp
  go_wp2_with fail
  refine Calls.mono C.out ?_
  rintro e w1 ⟨ve', vk', vs', rfl, O1, B1⟩
  obtain ⟨av, cv, rfl⟩ := ownShape O1.e
  obtain ⟨bv, dv, rfl⟩ := ownShape O1.k
  obtain ⟨gv, hv, rfl⟩ := ownShape O1.s
  have K4 : Cl w1 (p + 1) #[.bool false, .slice none 0 0, .slice none 0 0, .slice none 0 0] 26 := K3.on B1
  obtain ⟨f0, f1, f2, f3⟩ := K4.four
  obtain ⟨g0, g1, g2, g3⟩ := K4.thaw
  have KF : Cl ((((w1.setCell ⟨p + 1, 0, none⟩ (.bool true)).setCell ⟨p + 1, 1, none⟩ (.slice av n.es.length cv)).setCell ⟨p + 1, 2, none⟩ (.slice bv n.ks.length dv)).setCell ⟨p + 1, 3, none⟩ (.slice gv n.ss.length hv)) (p + 1) #[.bool true, .slice av n.es.length cv, .slice bv n.ks.length dv, .slice gv n.ss.length hv] 26 := K4.set4 _ _ _ _
  have BF : Hid (Below p w ((((w1.setCell ⟨p + 1, 0, none⟩ (.bool true)).setCell ⟨p + 1, 1, none⟩ (.slice av n.es.length cv)).setCell ⟨p + 1, 2, none⟩ (.slice bv n.ks.length dv)).setCell ⟨p + 1, 3, none⟩ (.slice gv n.ss.length hv))) := belSet4 (BW.out.trans (B1.mono (by omega))) (by omega)
  have OF : Hid (NdO p ((((w1.setCell ⟨p + 1, 0, none⟩ (.bool true)).setCell ⟨p + 1, 1, none⟩ (.slice av n.es.length cv)).setCell ⟨p + 1, 2, none⟩ (.slice bv n.ks.length dv)).setCell ⟨p + 1, 3, none⟩ (.slice gv n.ss.length hv)) (.slice av n.es.length cv) (.slice bv n.ks.length dv) (.slice gv n.ss.length hv) n) := ⟨ownMono (ownSet4 O1.e l1) (by omega), ownMono (ownSet4 O1.k l1) (by omega), ownMono (ownSet4 O1.s l1) (by omega)⟩
  clear C B1 O1 K3 K4 c0 c1 c2 c3
  go_wp2
  (try simp only [Exit.inBlock, Exit.then])
  generalize ((((w1.setCell ⟨p + 1, 0, none⟩ (.bool true)).setCell ⟨p + 1, 1, none⟩ (.slice av n.es.length cv)).setCell ⟨p + 1, 2, none⟩ (.slice bv n.ks.length dv)).setCell ⟨p + 1, 3, none⟩ (.slice gv n.ss.length hv)) = X at *
  obtain ⟨k0, k1, k2, k3⟩ := KF.four
  refine bodyPost_ret (v := .agg #[.bool true, .slice av n.es.length cv, .slice bv n.ks.length dv, .slice gv n.ss.length hv]) ?_ rfl ⟨_, _, _, by rw [HL.out], by rw [HP.out]; exact OF.out, by rw [HP.out]; exact BF.out⟩
  rw [results_cell rfl]
  go_simp

theorem nswap_any (n : Nd) (fr tr : Int) (kk : List Int) (yy : List ByteArray) (ve vk vs vo vy : Value) (w : World) (h1 : NdR w ve vk vs n) (hm1 : SmL n) (hkk : Row encI 1 w vo kk) (hyy : Row encS 1 w vy yy) (hkl : kk.length ≤ 1000) (hyl : yy.length ≤ 1000) :
    Calls Try.prog 26 #[.agg #[.bool n.leaf, ve, vk, vs], .int .i64 fr, .int .i64 tr, vo, vy] w (GvN w (swN n fr tr kk yy)) := by
  by_cases q1 : fr < 0
  · have e : swN n fr tr kk yy = n := by unfold swN swB; rw [decide_eq_false (show ¬ 0 ≤ fr by omega)]; rfl
    rw [e]; exact swap_n1 n fr tr kk yy ve vk vs vo vy w h1 hm1 hkk hyy _ rfl hkl q1
  · by_cases q2 : (n.ks.length : Int) < tr
    · have e : swN n fr tr kk yy = n := by unfold swN swB; rw [decide_eq_false (show ¬ tr ≤ n.ks.length by omega)]; simp
      rw [e]; exact swap_n2 n fr tr kk yy ve vk vs vo vy w h1 hm1 hkk hyy _ rfl hkl q1 q2
    · by_cases q3 : tr ≤ fr
      · have e : swN n fr tr kk yy = n := by unfold swN swB; rw [decide_eq_false (show ¬ fr < tr by omega)]; simp
        rw [e]; exact swap_n3 n fr tr kk yy ve vk vs vo vy w h1 hm1 hkk hyy _ rfl hkl q1 q2 q3
      · by_cases q4 : (yy.length : Int) = max ((kk.length : Int) - 1) 0
        · cases hl : n.leaf with
          | true =>
            have e : swN n fr tr kk yy = n := by unfold swN swB; rw [hl]; simp
            rw [e, ← hl]; exact swap_n5 n fr tr kk yy ve vk vs vo vy w h1 hm1 hkk hyy hl hkl q1 q2 q3 (by rw [bne_eq_false_iff_eq]; exact q4)
          | false =>
            have hb : swB n fr tr kk yy = true := by
              unfold swB
              rw [decide_eq_true (show 0 ≤ fr by omega), decide_eq_true (show tr ≤ n.ks.length by omega), decide_eq_true (show fr < tr by omega), decide_eq_true q4, hl]
              rfl
            obtain ⟨f, rfl⟩ : ∃ f : Nat, fr = f := ⟨fr.toNat, by omega⟩
            obtain ⟨t, rfl⟩ : ∃ t : Nat, tr = t := ⟨tr.toNat, by omega⟩
            have e : swN n f t kk yy = ⟨false, n.es, rpL n.ks f t kk, rpL n.ss (swF f kk) (swT f t kk) yy⟩ := by
              unfold swN; rw [if_pos hb]; simp
            rw [e]
            obtain ⟨lf, es, ks, ss⟩ := n
            obtain ⟨he, hk, hss⟩ := h1
            obtain ⟨s1, s2, s3⟩ := hm1
            simp only at he hk hss s1 s2 s3 hl q2 ⊢
            have hft : f < t := by omega
            have htk : t ≤ ks.length := by omega
            unfold swF swT
            by_cases g : 0 < kk.length
            · rw [if_pos g, if_pos g]
              exact swap_g0 es ks kk ss yy f t ve vk vs vo vy w he hk hss hkk hyy s1 s2 s3 hkl hyl hft htk q4 (t - 1) g rfl
            · have g' : kk.length = 0 := by omega
              rw [if_neg g, if_neg g]
              by_cases g2 : 0 < f
              · rw [if_pos g2]
                exact swap_g1 es ks kk ss yy f t ve vk vs vo vy w he hk hss hkk hyy s1 s2 s3 hkl hyl hft htk q4 (f - 1) (t - 1) g' g2 rfl rfl
              · rw [if_neg g2]
                have g3 : f = 0 := by omega
                rw [show f - 1 = f by omega]
                exact swap_g2 es ks kk ss yy f t ve vk vs vo vy w he hk hss hkk hyy s1 s2 s3 hkl hyl hft htk q4 g' g3
        · have e : swN n fr tr kk yy = n := by unfold swN swB; rw [decide_eq_false q4]; simp
          rw [e]; exact swap_n4 n fr tr kk yy ve vk vs vo vy w h1 hm1 hkk hyy _ rfl hkl q1 q2 q3 (by rw [bne_iff_ne]; exact q4)

end Go.Proofs.Ytmamnlphhiaeoaa

/-
  The walk of package node's alone.
-/
import Derived.Test.YtmamnlphhiaeoaaNdKit
import Derived.Test.YtmamnlphhiaeoaaOrd
namespace Go.Proofs.Ytmamnlphhiaeoaa
open Go.Shelf Go.RowKit Go.Lib Go.Sort
attribute [local go_sem ↓] Go.wp_at_zero Go.wp_at_succ

/-- What holds between the operations of the region. -/
def JAlone (W : World) (p : Nat) (lf : Bool) (ae ak az : Option Addr) (ce ck cz : Nat) (es : List En) (ks : List Int) (ss : List ByteArray) (f : List Bool) (a : Act) (w : World) : Prop :=
  ∃ f0 f1 f2 f3 f4 f5 f6 f7 f8 f9 f10 f11 f12 f13 f14 f15 : Bool, f = [f0, f1, f2, f3, f4, f5, f6, f7, f8, f9, f10, f11, f12, f13, f14, f15] ∧ f15 = false ∧ ∃ x3 x4 x5 x6 x7 x8 x9 x10 x11 x12 x13 x14 x15 x16 x17 : Value,
    a = { tmps := #[.agg #[.bool lf, .slice ae es.length ce, .slice ak ks.length ck, .slice az ss.length cz], .pointer (some ⟨p, 0, none⟩), .pointer (some ⟨p + 1, 0, none⟩), x3, x4, x5, x6, x7, x8, x9, x10, x11, x12, x13, x14, x15, x16, x17], defers := [] } ∧ RB W (p + 1) 26 w ∧
    Hid (f0 = true → x3 = .pointer (some ⟨p, 0, none⟩)) ∧
    Hid (f1 = true → x4 = .bool lf) ∧
    Hid (f2 = true → x5 = .pointer (some ⟨p, 1, none⟩)) ∧
    Hid (f3 = true → x6 = .slice ae es.length ce) ∧
    Hid (f4 = true → ∃ qq, x7 = .slice (some ⟨qq, 0, none⟩) 1 1 ∧ Cl w qq #[.slice ae es.length ce] 22) ∧
    Hid (f5 = true → ∃ ao n c, x8 = .slice ao n c ∧ OwnP (p + 2) w x8 (es)) ∧
    Hid (f6 = true → x9 = .pointer (some ⟨p, 2, none⟩)) ∧
    Hid (f7 = true → x10 = .slice ak ks.length ck) ∧
    Hid (f8 = true → ∃ qq, x11 = .slice (some ⟨qq, 0, none⟩) 1 1 ∧ Cl w qq #[.slice ak ks.length ck] 23) ∧
    Hid (f9 = true → ∃ ao n c, x12 = .slice ao n c ∧ OwnI (p + 2) w x12 (ks)) ∧
    Hid (f10 = true → x13 = .pointer (some ⟨p, 3, none⟩)) ∧
    Hid (f11 = true → x14 = .slice az ss.length cz) ∧
    Hid (f12 = true → ∃ qq, x15 = .slice (some ⟨qq, 0, none⟩) 1 1 ∧ Cl w qq #[.slice az ss.length cz] 24) ∧
    Hid (f13 = true → ∃ ao n c, x16 = .slice ao n c ∧ OwnS (p + 2) w x16 (ss)) ∧
    Hid (f14 = true → f5 = true ∧ f9 = true ∧ f13 = true ∧ x17 = .agg #[.bool lf, x8, x12, x16])
theorem JAlone.elim {W : World} {p : Nat} {lf : Bool} {ae ak az : Option Addr} {ce ck cz : Nat} {es : List En} {ks : List Int} {ss : List ByteArray} {f : List Bool} {a : Act} {w : World} {C : List Bool → Act → World → Prop} (h : JAlone W p lf ae ak az ce ck cz es ks ss f a w)
    (k : ∀ (f0 f1 f2 f3 f4 f5 f6 f7 f8 f9 f10 f11 f12 f13 f14 f15 : Bool) (x3 x4 x5 x6 x7 x8 x9 x10 x11 x12 x13 x14 x15 x16 x17 : Value), f15 = false → RB W (p + 1) 26 w →
      Hid (f0 = true → x3 = .pointer (some ⟨p, 0, none⟩)) →
      Hid (f1 = true → x4 = .bool lf) →
      Hid (f2 = true → x5 = .pointer (some ⟨p, 1, none⟩)) →
      Hid (f3 = true → x6 = .slice ae es.length ce) →
      Hid (f4 = true → ∃ qq, x7 = .slice (some ⟨qq, 0, none⟩) 1 1 ∧ Cl w qq #[.slice ae es.length ce] 22) →
      Hid (f5 = true → ∃ ao n c, x8 = .slice ao n c ∧ OwnP (p + 2) w x8 (es)) →
      Hid (f6 = true → x9 = .pointer (some ⟨p, 2, none⟩)) →
      Hid (f7 = true → x10 = .slice ak ks.length ck) →
      Hid (f8 = true → ∃ qq, x11 = .slice (some ⟨qq, 0, none⟩) 1 1 ∧ Cl w qq #[.slice ak ks.length ck] 23) →
      Hid (f9 = true → ∃ ao n c, x12 = .slice ao n c ∧ OwnI (p + 2) w x12 (ks)) →
      Hid (f10 = true → x13 = .pointer (some ⟨p, 3, none⟩)) →
      Hid (f11 = true → x14 = .slice az ss.length cz) →
      Hid (f12 = true → ∃ qq, x15 = .slice (some ⟨qq, 0, none⟩) 1 1 ∧ Cl w qq #[.slice az ss.length cz] 24) →
      Hid (f13 = true → ∃ ao n c, x16 = .slice ao n c ∧ OwnS (p + 2) w x16 (ss)) →
      Hid (f14 = true → f5 = true ∧ f9 = true ∧ f13 = true ∧ x17 = .agg #[.bool lf, x8, x12, x16]) →
      C [f0, f1, f2, f3, f4, f5, f6, f7, f8, f9, f10, f11, f12, f13, f14, f15] { tmps := #[.agg #[.bool lf, .slice ae es.length ce, .slice ak ks.length ck, .slice az ss.length cz], .pointer (some ⟨p, 0, none⟩), .pointer (some ⟨p + 1, 0, none⟩), x3, x4, x5, x6, x7, x8, x9, x10, x11, x12, x13, x14, x15, x16, x17], defers := [] } w) : C f a w :=
  let ⟨f0, f1, f2, f3, f4, f5, f6, f7, f8, f9, f10, f11, f12, f13, f14, f15, ef, e, x3, x4, x5, x6, x7, x8, x9, x10, x11, x12, x13, x14, x15, x16, x17, ea, hB, h0, h1, h2, h3, h4, h5, h6, h7, h8, h9, h10, h11, h12, h13, h14⟩ := h
  ef ▸ ea ▸ k f0 f1 f2 f3 f4 f5 f6 f7 f8 f9 f10 f11 f12 f13 f14 f15 x3 x4 x5 x6 x7 x8 x9 x10 x11 x12 x13 x14 x15 x16 x17 e hB h0 h1 h2 h3 h4 h5 h6 h7 h8 h9 h10 h11 h12 h13 h14

set_option maxHeartbeats 16000000 in
set_option maxRecDepth 100000 in
theorem alone_any (n : Nd) (ve vk vs : Value) (w : World) (h : NdR w ve vk vs n) (hs : SmL n) :
    Calls Try.prog 45 #[.agg #[.bool n.leaf, ve, vk, vs]] w fun e w' => ∃ ve' vk' vs', e = .returned (.agg #[.bool n.leaf, ve', vk', vs']) ∧ NdO w.heap.size w' ve' vk' vs' n ∧ Below w.heap.size w w' := by
  obtain ⟨lf, es, ks, ss⟩ := n
  obtain ⟨he, hk, hss⟩ := h
  obtain ⟨s1, s2, s3⟩ := hs
  simp only at he hk hss s1 s2 s3
  obtain ⟨ae, ce, rfl, _⟩ := rowShape he
  obtain ⟨ak, ck, rfl, _⟩ := rowShape hk
  obtain ⟨az, cz, rfl, _⟩ := rowShape hss
  have K1 : Cl ((w.alloc (.cells #[.bool lf, .slice ae es.length ce, .slice ak ks.length ck, .slice az ss.length cz] 26)).alloc (.cells #[.bool false, .slice none 0 0, .slice none 0 0, .slice none 0 0] 26)) w.heap.size #[.bool lf, .slice ae es.length ce, .slice ak ks.length ck, .slice az ss.length cz] 26 := (Cl.new0 _ _ _).alloc _
  have K2 : Cl ((w.alloc (.cells #[.bool lf, .slice ae es.length ce, .slice ak ks.length ck, .slice az ss.length cz] 26)).alloc (.cells #[.bool false, .slice none 0 0, .slice none 0 0, .slice none 0 0] 26)) (w.heap.size + 1) #[.bool false, .slice none 0 0, .slice none 0 0, .slice none 0 0] 26 := Cl.new1 _ _ _ _
  have BW : Hid (Below w.heap.size w ((w.alloc (.cells #[.bool lf, .slice ae es.length ce, .slice ak ks.length ck, .slice az ss.length cz] 26)).alloc (.cells #[.bool false, .slice none 0 0, .slice none 0 0, .slice none 0 0] 26))) := belAlloc _ (belAlloc _ (Below.refl _ _))
  go_enter Try.func45, Try.ntmps45
  go_wp2_with fail
  generalize ((w.alloc (.cells #[.bool lf, .slice ae es.length ce, .slice ak ks.length ck, .slice az ss.length cz] 26)).alloc (.cells #[.bool false, .slice none 0 0, .slice none 0 0, .slice none 0 0] 26)) = W at *
  obtain ⟨p, hp⟩ : ∃ p, w.heap.size = p := ⟨_, rfl⟩
  rw [hp] at K1 K2 BW ⊢
  have R0 : Hid (RB W (p + 1) 26 W.drew) := ⟨(Below.refl _ W).drew, _, _, _, _, K2⟩
  have BX : ∀ X, RB W (p + 1) 26 X → Below p w X := fun X hX => BW.out.trans (hX.1.mono (Nat.le_succ p))
  have RE : Hid (∀ X, RB W (p + 1) 26 X → Row encP 2 X (.slice ae es.length ce) es) := fun X hX => he.below (by rw [hp]; exact BX X hX)
  have RK : Hid (∀ X, RB W (p + 1) 26 X → Row encI 1 X (.slice ak ks.length ck) ks) := fun X hX => hk.below (by rw [hp]; exact BX X hX)
  have RS : Hid (∀ X, RB W (p + 1) 26 X → Row encS 1 X (.slice az ss.length cz) ss) := fun X hX => hss.below (by rw [hp]; exact BX X hX)
  have MK : Hid (∀ X, RB W (p + 1) 26 X → X.cell? ⟨p, 0, none⟩ = some (.bool lf) ∧ X.cell? ⟨p, 1, none⟩ = some (.slice ae es.length ce) ∧ X.cell? ⟨p, 2, none⟩ = some (.slice ak ks.length ck) ∧ X.cell? ⟨p, 3, none⟩ = some (.slice az ss.length cz)) := fun X hX => (K1.below hX.1 (Nat.lt_succ_self p)).four
  have HBX : Hid (∀ X, RB W (p + 1) 26 X → Below p w X) := BX
  clear he hk hss K1 K2 BW BX
  refine region_inv 15 (JAlone W p lf ae ak az ce ck cz es ks ss) (by kernel_rfl) (by kernel_rfl) (by kernel_rfl) ⟨false, false, false, false, false, false, false, false, false, false, false, false, false, false, false, false, rfl, rfl, _, _, _, _, _, _, _, _, _, _, _, _, _, _, _, rfl, R0.out, (fun h => by cases h), (fun h => by cases h), (fun h => by cases h), (fun h => by cases h), (fun h => by cases h), (fun h => by cases h), (fun h => by cases h), (fun h => by cases h), (fun h => by cases h), (fun h => by cases h), (fun h => by cases h), (fun h => by cases h), (fun h => by cases h), (fun h => by cases h), (fun h => by cases h)⟩ ?_ ?_ ?_
  · intro i f a w' hne hl hJ
    refine JAlone.elim hJ (C := fun f a w' => i ∈ Region.ready .any _ f.toArray → wpOp _ _ _ i (fun a' w'' => JAlone W p lf ae ak az ce ck cz es ks ss (f.set i true) a' w'') a w') ?_
    clear hJ hl f a
    intro f0 f1 f2 f3 f4 f5 f6 f7 f8 f9 f10 f11 f12 f13 f14 f15 x3 x4 x5 x6 x7 x8 x9 x10 x11 x12 x13 x14 x15 x16 x17 e15 hB h0 h1 h2 h3 h4 h5 h6 h7 h8 h9 h10 h11 h12 h13 h14 hi
    obtain ⟨hlt, hun, _⟩ := ready_mem hi
    have hlt' : i < 16 := hlt
    clear hlt
    rcases (by omega : i = 0 ∨ i = 1 ∨ i = 2 ∨ i = 3 ∨ i = 4 ∨ i = 5 ∨ i = 6 ∨ i = 7 ∨ i = 8 ∨ i = 9 ∨ i = 10 ∨ i = 11 ∨ i = 12 ∨ i = 13 ∨ i = 14) with rfl | rfl | rfl | rfl | rfl | rfl | rfl | rfl | rfl | rfl | rfl | rfl | rfl | rfl | rfl
    · have un : f0 = false := hun
      clear hun
      clear hi hne hlt'
      refine wpOp_step rfl (fun K hK => ?_)
      have HK : Shut _ := hK
      clear hK
      go_simp
      refine HK.out _ _ ?_
      exact ⟨true, f1, f2, f3, f4, f5, f6, f7, f8, f9, f10, f11, f12, f13, f14, f15, rfl, e15, _, _, _, _, _, _, _, _, _, _, _, _, _, _, _, rfl, hB, (fun _ => rfl), h1, h2, h3, h4, h5, h6, h7, h8, h9, h10, h11, h12, h13, h14⟩
    · have un : f1 = false := hun
      clear hun
      have d0 : f0 = true := ready_dep 0 hi (by kernel_rfl)
      have y0 := h0.out d0
      subst y0
      clear hi hne hlt'
      have cell := (MK.out _ hB).1
      refine wpOp_step rfl (fun K hK => ?_)
      have HK : Shut _ := hK
      clear hK
      go_simp
      refine HK.out _ _ ?_
      exact ⟨f0, true, f2, f3, f4, f5, f6, f7, f8, f9, f10, f11, f12, f13, f14, f15, rfl, e15, _, _, _, _, _, _, _, _, _, _, _, _, _, _, _, rfl, hB, h0, (fun _ => rfl), h2, h3, h4, h5, h6, h7, h8, h9, h10, h11, h12, h13, h14⟩
    · have un : f2 = false := hun
      clear hun
      clear hi hne hlt'
      refine wpOp_step rfl (fun K hK => ?_)
      have HK : Shut _ := hK
      clear hK
      go_simp
      refine HK.out _ _ ?_
      exact ⟨f0, f1, true, f3, f4, f5, f6, f7, f8, f9, f10, f11, f12, f13, f14, f15, rfl, e15, _, _, _, _, _, _, _, _, _, _, _, _, _, _, _, rfl, hB, h0, h1, (fun _ => rfl), h3, h4, h5, h6, h7, h8, h9, h10, h11, h12, h13, h14⟩
    · have un : f3 = false := hun
      clear hun
      have d2 : f2 = true := ready_dep 2 hi (by kernel_rfl)
      have y2 := h2.out d2
      subst y2
      clear hi hne hlt'
      have cell := (MK.out _ hB).2.1
      refine wpOp_step rfl (fun K hK => ?_)
      have HK : Shut _ := hK
      clear hK
      go_simp
      refine HK.out _ _ ?_
      exact ⟨f0, f1, f2, true, f4, f5, f6, f7, f8, f9, f10, f11, f12, f13, f14, f15, rfl, e15, _, _, _, _, _, _, _, _, _, _, _, _, _, _, _, rfl, hB, h0, h1, h2, (fun _ => rfl), h4, h5, h6, h7, h8, h9, h10, h11, h12, h13, h14⟩
    · have un : f4 = false := hun
      clear hun
      have d3 : f3 = true := ready_dep 3 hi (by kernel_rfl)
      have y3 := h3.out d3
      subst y3
      clear hi hne hlt'
      refine wpOp_step rfl (fun K hK => ?_)
      have HK : Shut _ := hK
      clear hK
      go_simp
      refine HK.out _ _ ?_
      exact ⟨f0, f1, f2, f3, true, f5, f6, f7, f8, f9, f10, f11, f12, f13, f14, f15, rfl, e15, _, _, _, _, _, _, _, _, _, _, _, _, _, _, _, rfl, RB.alloc hB _, h0, h1, h2, h3, (fun _ => ⟨_, rfl, Cl.new _ _ _⟩), (fun d => let ⟨ao, n, c, e, o⟩ := h5.out d; ⟨ao, n, c, e, ownsRow_below o (belAlloc _ (Below.refl _ _))⟩), h6, h7, (fun d => let ⟨q, e, c⟩ := h8.out d; ⟨q, e, Cl.on c (belAlloc _ (Below.refl _ _))⟩), (fun d => let ⟨ao, n, c, e, o⟩ := h9.out d; ⟨ao, n, c, e, ownsRow_below o (belAlloc _ (Below.refl _ _))⟩), h10, h11, (fun d => let ⟨q, e, c⟩ := h12.out d; ⟨q, e, Cl.on c (belAlloc _ (Below.refl _ _))⟩), (fun d => let ⟨ao, n, c, e, o⟩ := h13.out d; ⟨ao, n, c, e, ownsRow_below o (belAlloc _ (Below.refl _ _))⟩), h14⟩
    · have un : f5 = false := hun
      clear hun
      have d4 : f4 = true := ready_dep 4 hi (by kernel_rfl)
      obtain ⟨q4, y4, c4⟩ := h4.out d4
      subst y4
      clear hi hne hlt'
      refine wpOp_step rfl (fun K hK => ?_)
      have HK : Shut _ := hK
      clear hK
      go_simp
      refine Calls.mono (joinedE1 q4 22 (.slice ae es.length ce) es w' c4 (RE.out _ hB) (by omega)) ?_
      rintro e w1 ⟨ao, nn, cc, rfl, ow, b1⟩
      refine HK.out _ _ ?_
      exact ⟨f0, f1, f2, f3, f4, true, f6, f7, f8, f9, f10, f11, f12, f13, f14, f15, rfl, e15, _, _, _, _, _, _, _, _, _, _, _, _, _, _, _, rfl, RB.call hB b1, h0, h1, h2, h3, (fun d => let ⟨q, e, c⟩ := h4.out d; ⟨q, e, Cl.on c (b1)⟩), (fun _ => ⟨ao, nn, cc, rfl, ownMono ow (RB.lt hB)⟩), h6, h7, (fun d => let ⟨q, e, c⟩ := h8.out d; ⟨q, e, Cl.on c (b1)⟩), (fun d => let ⟨ao, n, c, e, o⟩ := h9.out d; ⟨ao, n, c, e, ownsRow_below o (b1)⟩), h10, h11, (fun d => let ⟨q, e, c⟩ := h12.out d; ⟨q, e, Cl.on c (b1)⟩), (fun d => let ⟨ao, n, c, e, o⟩ := h13.out d; ⟨ao, n, c, e, ownsRow_below o (b1)⟩), (fun d => by have e := (h14.out d).1; rw [un] at e; cases e)⟩
    · have un : f6 = false := hun
      clear hun
      clear hi hne hlt'
      refine wpOp_step rfl (fun K hK => ?_)
      have HK : Shut _ := hK
      clear hK
      go_simp
      refine HK.out _ _ ?_
      exact ⟨f0, f1, f2, f3, f4, f5, true, f7, f8, f9, f10, f11, f12, f13, f14, f15, rfl, e15, _, _, _, _, _, _, _, _, _, _, _, _, _, _, _, rfl, hB, h0, h1, h2, h3, h4, h5, (fun _ => rfl), h7, h8, h9, h10, h11, h12, h13, h14⟩
    · have un : f7 = false := hun
      clear hun
      have d6 : f6 = true := ready_dep 6 hi (by kernel_rfl)
      have y6 := h6.out d6
      subst y6
      clear hi hne hlt'
      have cell := (MK.out _ hB).2.2.1
      refine wpOp_step rfl (fun K hK => ?_)
      have HK : Shut _ := hK
      clear hK
      go_simp
      refine HK.out _ _ ?_
      exact ⟨f0, f1, f2, f3, f4, f5, f6, true, f8, f9, f10, f11, f12, f13, f14, f15, rfl, e15, _, _, _, _, _, _, _, _, _, _, _, _, _, _, _, rfl, hB, h0, h1, h2, h3, h4, h5, h6, (fun _ => rfl), h8, h9, h10, h11, h12, h13, h14⟩
    · have un : f8 = false := hun
      clear hun
      have d7 : f7 = true := ready_dep 7 hi (by kernel_rfl)
      have y7 := h7.out d7
      subst y7
      clear hi hne hlt'
      refine wpOp_step rfl (fun K hK => ?_)
      have HK : Shut _ := hK
      clear hK
      go_simp
      refine HK.out _ _ ?_
      exact ⟨f0, f1, f2, f3, f4, f5, f6, f7, true, f9, f10, f11, f12, f13, f14, f15, rfl, e15, _, _, _, _, _, _, _, _, _, _, _, _, _, _, _, rfl, RB.alloc hB _, h0, h1, h2, h3, (fun d => let ⟨q, e, c⟩ := h4.out d; ⟨q, e, Cl.on c (belAlloc _ (Below.refl _ _))⟩), (fun d => let ⟨ao, n, c, e, o⟩ := h5.out d; ⟨ao, n, c, e, ownsRow_below o (belAlloc _ (Below.refl _ _))⟩), h6, h7, (fun _ => ⟨_, rfl, Cl.new _ _ _⟩), (fun d => let ⟨ao, n, c, e, o⟩ := h9.out d; ⟨ao, n, c, e, ownsRow_below o (belAlloc _ (Below.refl _ _))⟩), h10, h11, (fun d => let ⟨q, e, c⟩ := h12.out d; ⟨q, e, Cl.on c (belAlloc _ (Below.refl _ _))⟩), (fun d => let ⟨ao, n, c, e, o⟩ := h13.out d; ⟨ao, n, c, e, ownsRow_below o (belAlloc _ (Below.refl _ _))⟩), h14⟩
    · have un : f9 = false := hun
      clear hun
      have d8 : f8 = true := ready_dep 8 hi (by kernel_rfl)
      obtain ⟨q8, y8, c8⟩ := h8.out d8
      subst y8
      clear hi hne hlt'
      refine wpOp_step rfl (fun K hK => ?_)
      have HK : Shut _ := hK
      clear hK
      go_simp
      refine Calls.mono (joinedI1 q8 23 (.slice ak ks.length ck) ks w' c8 (RK.out _ hB) (by omega)) ?_
      rintro e w1 ⟨ao, nn, cc, rfl, ow, b1⟩
      refine HK.out _ _ ?_
      exact ⟨f0, f1, f2, f3, f4, f5, f6, f7, f8, true, f10, f11, f12, f13, f14, f15, rfl, e15, _, _, _, _, _, _, _, _, _, _, _, _, _, _, _, rfl, RB.call hB b1, h0, h1, h2, h3, (fun d => let ⟨q, e, c⟩ := h4.out d; ⟨q, e, Cl.on c (b1)⟩), (fun d => let ⟨ao, n, c, e, o⟩ := h5.out d; ⟨ao, n, c, e, ownsRow_below o (b1)⟩), h6, h7, (fun d => let ⟨q, e, c⟩ := h8.out d; ⟨q, e, Cl.on c (b1)⟩), (fun _ => ⟨ao, nn, cc, rfl, ownMono ow (RB.lt hB)⟩), h10, h11, (fun d => let ⟨q, e, c⟩ := h12.out d; ⟨q, e, Cl.on c (b1)⟩), (fun d => let ⟨ao, n, c, e, o⟩ := h13.out d; ⟨ao, n, c, e, ownsRow_below o (b1)⟩), (fun d => by have e := (h14.out d).2.1; rw [un] at e; cases e)⟩
    · have un : f10 = false := hun
      clear hun
      clear hi hne hlt'
      refine wpOp_step rfl (fun K hK => ?_)
      have HK : Shut _ := hK
      clear hK
      go_simp
      refine HK.out _ _ ?_
      exact ⟨f0, f1, f2, f3, f4, f5, f6, f7, f8, f9, true, f11, f12, f13, f14, f15, rfl, e15, _, _, _, _, _, _, _, _, _, _, _, _, _, _, _, rfl, hB, h0, h1, h2, h3, h4, h5, h6, h7, h8, h9, (fun _ => rfl), h11, h12, h13, h14⟩
    · have un : f11 = false := hun
      clear hun
      have d10 : f10 = true := ready_dep 10 hi (by kernel_rfl)
      have y10 := h10.out d10
      subst y10
      clear hi hne hlt'
      have cell := (MK.out _ hB).2.2.2
      refine wpOp_step rfl (fun K hK => ?_)
      have HK : Shut _ := hK
      clear hK
      go_simp
      refine HK.out _ _ ?_
      exact ⟨f0, f1, f2, f3, f4, f5, f6, f7, f8, f9, f10, true, f12, f13, f14, f15, rfl, e15, _, _, _, _, _, _, _, _, _, _, _, _, _, _, _, rfl, hB, h0, h1, h2, h3, h4, h5, h6, h7, h8, h9, h10, (fun _ => rfl), h12, h13, h14⟩
    · have un : f12 = false := hun
      clear hun
      have d11 : f11 = true := ready_dep 11 hi (by kernel_rfl)
      have y11 := h11.out d11
      subst y11
      clear hi hne hlt'
      refine wpOp_step rfl (fun K hK => ?_)
      have HK : Shut _ := hK
      clear hK
      go_simp
      refine HK.out _ _ ?_
      exact ⟨f0, f1, f2, f3, f4, f5, f6, f7, f8, f9, f10, f11, true, f13, f14, f15, rfl, e15, _, _, _, _, _, _, _, _, _, _, _, _, _, _, _, rfl, RB.alloc hB _, h0, h1, h2, h3, (fun d => let ⟨q, e, c⟩ := h4.out d; ⟨q, e, Cl.on c (belAlloc _ (Below.refl _ _))⟩), (fun d => let ⟨ao, n, c, e, o⟩ := h5.out d; ⟨ao, n, c, e, ownsRow_below o (belAlloc _ (Below.refl _ _))⟩), h6, h7, (fun d => let ⟨q, e, c⟩ := h8.out d; ⟨q, e, Cl.on c (belAlloc _ (Below.refl _ _))⟩), (fun d => let ⟨ao, n, c, e, o⟩ := h9.out d; ⟨ao, n, c, e, ownsRow_below o (belAlloc _ (Below.refl _ _))⟩), h10, h11, (fun _ => ⟨_, rfl, Cl.new _ _ _⟩), (fun d => let ⟨ao, n, c, e, o⟩ := h13.out d; ⟨ao, n, c, e, ownsRow_below o (belAlloc _ (Below.refl _ _))⟩), h14⟩
    · have un : f13 = false := hun
      clear hun
      have d12 : f12 = true := ready_dep 12 hi (by kernel_rfl)
      obtain ⟨q12, y12, c12⟩ := h12.out d12
      subst y12
      clear hi hne hlt'
      refine wpOp_step rfl (fun K hK => ?_)
      have HK : Shut _ := hK
      clear hK
      go_simp
      refine Calls.mono (joinedS1 q12 24 (.slice az ss.length cz) ss w' c12 (RS.out _ hB) (by omega)) ?_
      rintro e w1 ⟨ao, nn, cc, rfl, ow, b1⟩
      refine HK.out _ _ ?_
      exact ⟨f0, f1, f2, f3, f4, f5, f6, f7, f8, f9, f10, f11, f12, true, f14, f15, rfl, e15, _, _, _, _, _, _, _, _, _, _, _, _, _, _, _, rfl, RB.call hB b1, h0, h1, h2, h3, (fun d => let ⟨q, e, c⟩ := h4.out d; ⟨q, e, Cl.on c (b1)⟩), (fun d => let ⟨ao, n, c, e, o⟩ := h5.out d; ⟨ao, n, c, e, ownsRow_below o (b1)⟩), h6, h7, (fun d => let ⟨q, e, c⟩ := h8.out d; ⟨q, e, Cl.on c (b1)⟩), (fun d => let ⟨ao, n, c, e, o⟩ := h9.out d; ⟨ao, n, c, e, ownsRow_below o (b1)⟩), h10, h11, (fun d => let ⟨q, e, c⟩ := h12.out d; ⟨q, e, Cl.on c (b1)⟩), (fun _ => ⟨ao, nn, cc, rfl, ownMono ow (RB.lt hB)⟩), (fun d => by have e := (h14.out d).2.2.1; rw [un] at e; cases e)⟩
    · have un : f14 = false := hun
      clear hun
      have d1 : f1 = true := ready_dep 1 hi (by kernel_rfl)
      have y1 := h1.out d1
      subst y1
      have d5 : f5 = true := ready_dep 5 hi (by kernel_rfl)
      obtain ⟨a5, n5, m5, y5, o5⟩ := h5.out d5
      subst y5
      have d9 : f9 = true := ready_dep 9 hi (by kernel_rfl)
      obtain ⟨a9, n9, m9, y9, o9⟩ := h9.out d9
      subst y9
      have d13 : f13 = true := ready_dep 13 hi (by kernel_rfl)
      obtain ⟨a13, n13, m13, y13, o13⟩ := h13.out d13
      subst y13
      clear hi hne hlt'
      refine wpOp_step rfl (fun K hK => ?_)
      have HK : Shut _ := hK
      clear hK
      go_simp
      refine HK.out _ _ ?_
      exact ⟨f0, f1, f2, f3, f4, f5, f6, f7, f8, f9, f10, f11, f12, f13, true, f15, rfl, e15, _, _, _, _, _, _, _, _, _, _, _, _, _, _, _, rfl, hB, h0, h1, h2, h3, h4, h5, h6, h7, h8, h9, h10, h11, h12, h13, (fun _ => ⟨d5, d9, d13, rfl⟩)⟩
  · intro f a w' hl hJ
    refine JAlone.elim hJ (C := fun f a w' => 15 ∈ Region.ready .any _ f.toArray → wpOp _ _ _ 15 _ a w') ?_
    clear hJ hl f a
    intro f0 f1 f2 f3 f4 f5 f6 f7 f8 f9 f10 f11 f12 f13 f14 f15 x3 x4 x5 x6 x7 x8 x9 x10 x11 x12 x13 x14 x15 x16 x17 e15 hB h0 h1 h2 h3 h4 h5 h6 h7 h8 h9 h10 h11 h12 h13 h14 hi
    have d14 : f14 = true := ready_dep 14 hi (by kernel_rfl)
    obtain ⟨_, _, _, y14⟩ := h14.out d14
    subst y14
    have d5 : f5 = true := ready_dep 5 hi (by kernel_rfl)
    obtain ⟨a5, n5, m5, y5, o5⟩ := h5.out d5
    subst y5
    have d9 : f9 = true := ready_dep 9 hi (by kernel_rfl)
    obtain ⟨a9, n9, m9, y9, o9⟩ := h9.out d9
    subst y9
    have d13 : f13 = true := ready_dep 13 hi (by kernel_rfl)
    obtain ⟨a13, n13, m13, y13, o13⟩ := h13.out d13
    subst y13
    clear hi
    obtain ⟨⟨z0, y0⟩, ⟨z1, y1⟩, ⟨z2, y2⟩, ⟨z3, y3⟩, g0, g1, g2, g3⟩ := hB.four
    refine wpOp_step rfl (fun K hK => ?_)
    have HK : Shut _ := hK
    clear hK
    go_simp
    refine HK.out _ _ ?_
    have KF : Cl ((((w'.setCell ⟨p + 1, 0, none⟩ (.bool lf)).setCell ⟨p + 1, 1, none⟩ (.slice a5 n5 m5)).setCell ⟨p + 1, 2, none⟩ (.slice a9 n9 m9)).setCell ⟨p + 1, 3, none⟩ (.slice a13 n13 m13)) (p + 1) #[.bool lf, .slice a5 n5 m5, .slice a9 n9 m9, .slice a13 n13 m13] 26 := by
      obtain ⟨_, u0, u1, u2, u3, kc⟩ := hB
      exact kc.set4 _ _ _ _
    have BF : Hid (Below p w ((((w'.setCell ⟨p + 1, 0, none⟩ (.bool lf)).setCell ⟨p + 1, 1, none⟩ (.slice a5 n5 m5)).setCell ⟨p + 1, 2, none⟩ (.slice a9 n9 m9)).setCell ⟨p + 1, 3, none⟩ (.slice a13 n13 m13))) := belSet4 (HBX.out _ hB) (Nat.le_succ p)
    have OF : Hid (NdO p ((((w'.setCell ⟨p + 1, 0, none⟩ (.bool lf)).setCell ⟨p + 1, 1, none⟩ (.slice a5 n5 m5)).setCell ⟨p + 1, 2, none⟩ (.slice a9 n9 m9)).setCell ⟨p + 1, 3, none⟩ (.slice a13 n13 m13)) (.slice a5 n5 m5) (.slice a9 n9 m9) (.slice a13 n13 m13) ⟨lf, es, ks, ss⟩) := ⟨ownMono (ownSet4 o5 (Nat.lt_succ_self _)) (by omega), ownMono (ownSet4 o9 (Nat.lt_succ_self _)) (by omega), ownMono (ownSet4 o13 (Nat.lt_succ_self _)) (by omega)⟩
    generalize ((((w'.setCell ⟨p + 1, 0, none⟩ (.bool lf)).setCell ⟨p + 1, 1, none⟩ (.slice a5 n5 m5)).setCell ⟨p + 1, 2, none⟩ (.slice a9 n9 m9)).setCell ⟨p + 1, 3, none⟩ (.slice a13 n13 m13)) = X at *
    obtain ⟨k0, k1, k2, k3⟩ := KF.four
    clear y0 y1 y2 y3 g0 g1 g2 g3 hB h0 h1 h2 h3 h4 h5 h6 h7 h8 h9 h10 h11 h12 h13 h14
    go_wp2
    refine bodyPost_ret (v := .agg #[.bool lf, .slice a5 n5 m5, .slice a9 n9 m9, .slice a13 n13 m13]) ?_ rfl ⟨_, _, _, rfl, by rw [hp]; exact OF.out, by rw [hp]; exact BF.out⟩
    rw [results_cell rfl]
    go_simp
  · rintro f a w' ⟨f0, f1, f2, f3, f4, f5, f6, f7, f8, f9, f10, f11, f12, f13, f14, f15, rfl, rfl, _⟩
    rfl

end Go.Proofs.Ytmamnlphhiaeoaa

/-
  The walks of package node's Join, for all nodes, of replaced and of Swap.
-/
import Derived.Test.YtmamnlphhiaeoaaNdJoinW
namespace Go.Proofs.Ytmamnlphhiaeoaa
open Go.Shelf Go.RowKit Go.Lib Go.Sort
attribute [local go_sem ↓] Go.wp_at_zero Go.wp_at_succ

/-- A row, and a block of another type that is written. -/
theorem ownSet4T {base q : Nat} {w : World} {e t : TypeId} {k : Nat} {v a b c d : Value} {n : Nat} {xs : List Value} {cs : Array Value} (h : w.ownsRow base e k v n xs) (hc : Cl w q cs t) (hne : t ≠ e) : (set4 w q a b c d).ownsRow base e k v n xs := by
  refine ⟨h.1, ?_⟩
  rcases h.2 with h2 | ⟨g, cap, cur, hv, hg, hh, r⟩
  · exact Or.inl h2
  · refine Or.inr ⟨g, cap, cur, hv, hg, ?_, r⟩
    have hgq : g ≠ q := by
      intro e1
      subst e1
      unfold Cl at hc
      rw [hc] at hh
      injection hh with hh
      injection hh with h1 h2
      exact hne h2
    unfold set4
    rw [Below.heap_setCell _ _ _ _ hgq, Below.heap_setCell _ _ _ _ hgq, Below.heap_setCell _ _ _ _ hgq, Below.heap_setCell _ _ _ _ hgq]
    exact hh

/-- What a call answers that answers a node of its own. -/
def GvN (w : World) (n : Nd) (e : Ending) (w' : World) : Prop := ∃ ve vk vs, e = .returned (.agg #[.bool n.leaf, ve, vk, vs]) ∧ NdO w.heap.size w' ve vk vs n ∧ Below w.heap.size w w'

set_option maxHeartbeats 4000000 in
set_option maxRecDepth 100000 in
theorem join_untrue (key : ByteArray) (a b : Nd) (ve1 vk1 vs1 ve2 vk2 vs2 : Value) (w : World) (h1 : NdR w ve1 vk1 vs1 a) (hm1 : SmL a) (hlf : a.leaf = true) (hlg : b.leaf = false) :
    Calls Try.prog 24 #[.agg #[.bool a.leaf, ve1, vk1, vs1], .string key, .agg #[.bool b.leaf, ve2, vk2, vs2]] w (GvN w a) := by
  have BW : Hid (Below w.heap.size w (((w.alloc (.cells #[.bool true, ve1, vk1, vs1] 26)).alloc (.cells #[.bool false, ve2, vk2, vs2] 26)).alloc (.cells #[.bool false, .slice none 0 0, .slice none 0 0, .slice none 0 0] 26))) := belAlloc _ (belAlloc _ (belAlloc _ (Below.refl _ _)))
  have K1 : Cl (((w.alloc (.cells #[.bool true, ve1, vk1, vs1] 26)).alloc (.cells #[.bool false, ve2, vk2, vs2] 26)).alloc (.cells #[.bool false, .slice none 0 0, .slice none 0 0, .slice none 0 0] 26)) w.heap.size #[.bool true, ve1, vk1, vs1] 26 := ((Cl.new0 _ _ _).alloc _).alloc _
  have K2 : Cl (((w.alloc (.cells #[.bool true, ve1, vk1, vs1] 26)).alloc (.cells #[.bool false, ve2, vk2, vs2] 26)).alloc (.cells #[.bool false, .slice none 0 0, .slice none 0 0, .slice none 0 0] 26)) (w.heap.size + 1) #[.bool false, ve2, vk2, vs2] 26 := (Cl.new1 _ _ _ _).alloc _
  have K3 : Cl (((w.alloc (.cells #[.bool true, ve1, vk1, vs1] 26)).alloc (.cells #[.bool false, ve2, vk2, vs2] 26)).alloc (.cells #[.bool false, .slice none 0 0, .slice none 0 0, .slice none 0 0] 26)) (w.heap.size + 1 + 1) #[.bool false, .slice none 0 0, .slice none 0 0, .slice none 0 0] 26 := Cl.new2 _ _ _ _ _
  have C : Hid _ := alone_any a ve1 vk1 vs1 (((w.alloc (.cells #[.bool true, ve1, vk1, vs1] 26)).alloc (.cells #[.bool false, ve2, vk2, vs2] 26)).alloc (.cells #[.bool false, .slice none 0 0, .slice none 0 0, .slice none 0 0] 26)) (h1.below BW.out) hm1
  rw [hlf] at C
  rw [hlf, hlg]
  obtain ⟨ae, ce, rfl, _⟩ := rowShape h1.e
  obtain ⟨ak, ck, rfl, _⟩ := rowShape h1.k
  obtain ⟨az, cz, rfl, _⟩ := rowShape h1.s
  have HL : Hid (a.leaf = true) := hlf
  clear h1 hlf hlg
  go_enter Try.func24, Try.ntmps24
  go_upto_region 1 with fail
  generalize (((w.alloc (.cells #[.bool true, .slice ae a.es.length ce, .slice ak a.ks.length ck, .slice az a.ss.length cz] 26)).alloc (.cells #[.bool false, ve2, vk2, vs2] 26)).alloc (.cells #[.bool false, .slice none 0 0, .slice none 0 0, .slice none 0 0] 26)) = W at *
  obtain ⟨p, hp⟩ : ∃ p, w.heap.size = p := ⟨_, rfl⟩
  rw [hp] at K1 K2 K3 BW ⊢
  obtain ⟨c0, c1, c2, c3⟩ := K1.four
  obtain ⟨d0, _, _, _⟩ := K2.four
  have l1 := K3.lt
  clear K1 K2
  go_wp2_with fail
  refine Calls.mono C.out ?_
  rintro e w1 ⟨ve', vk', vs', rfl, O1, B1⟩
  obtain ⟨av, cv, rfl⟩ := ownShape O1.e
  obtain ⟨bv, dv, rfl⟩ := ownShape O1.k
  obtain ⟨gv, hv, rfl⟩ := ownShape O1.s
  have K4 : Cl w1 (p + 1 + 1) #[.bool false, .slice none 0 0, .slice none 0 0, .slice none 0 0] 26 := K3.on B1
  obtain ⟨f0, f1, f2, f3⟩ := K4.four
  obtain ⟨g0, g1, g2, g3⟩ := K4.thaw
  have KF : Cl ((((w1.setCell ⟨p + 1 + 1, 0, none⟩ (.bool true)).setCell ⟨p + 1 + 1, 1, none⟩ (.slice av a.es.length cv)).setCell ⟨p + 1 + 1, 2, none⟩ (.slice bv a.ks.length dv)).setCell ⟨p + 1 + 1, 3, none⟩ (.slice gv a.ss.length hv)) (p + 1 + 1) #[.bool true, .slice av a.es.length cv, .slice bv a.ks.length dv, .slice gv a.ss.length hv] 26 := K4.set4 _ _ _ _
  have BF : Hid (Below p w ((((w1.setCell ⟨p + 1 + 1, 0, none⟩ (.bool true)).setCell ⟨p + 1 + 1, 1, none⟩ (.slice av a.es.length cv)).setCell ⟨p + 1 + 1, 2, none⟩ (.slice bv a.ks.length dv)).setCell ⟨p + 1 + 1, 3, none⟩ (.slice gv a.ss.length hv))) := belSet4 (BW.out.trans (B1.mono (by omega))) (by omega)
  have OF : Hid (NdO p ((((w1.setCell ⟨p + 1 + 1, 0, none⟩ (.bool true)).setCell ⟨p + 1 + 1, 1, none⟩ (.slice av a.es.length cv)).setCell ⟨p + 1 + 1, 2, none⟩ (.slice bv a.ks.length dv)).setCell ⟨p + 1 + 1, 3, none⟩ (.slice gv a.ss.length hv)) (.slice av a.es.length cv) (.slice bv a.ks.length dv) (.slice gv a.ss.length hv) a) := ⟨ownMono (ownSet4 O1.e l1) (by omega), ownMono (ownSet4 O1.k l1) (by omega), ownMono (ownSet4 O1.s l1) (by omega)⟩
  clear C B1 O1 K3 K4 c0 c1 c2 c3 d0
  go_wp2
  (try simp only [Exit.inBlock, Exit.then])
  generalize ((((w1.setCell ⟨p + 1 + 1, 0, none⟩ (.bool true)).setCell ⟨p + 1 + 1, 1, none⟩ (.slice av a.es.length cv)).setCell ⟨p + 1 + 1, 2, none⟩ (.slice bv a.ks.length dv)).setCell ⟨p + 1 + 1, 3, none⟩ (.slice gv a.ss.length hv)) = X at *
  obtain ⟨k0, k1, k2, k3⟩ := KF.four
  refine bodyPost_ret (v := .agg #[.bool true, .slice av a.es.length cv, .slice bv a.ks.length dv, .slice gv a.ss.length hv]) ?_ rfl ⟨_, _, _, by rw [HL.out], by rw [hp]; exact OF.out, by rw [hp]; exact BF.out⟩
  rw [results_cell rfl]
  go_simp

set_option maxHeartbeats 4000000 in
set_option maxRecDepth 100000 in
theorem join_unfalse (key : ByteArray) (a b : Nd) (ve1 vk1 vs1 ve2 vk2 vs2 : Value) (w : World) (h1 : NdR w ve1 vk1 vs1 a) (hm1 : SmL a) (hlf : a.leaf = false) (hlg : b.leaf = true) :
    Calls Try.prog 24 #[.agg #[.bool a.leaf, ve1, vk1, vs1], .string key, .agg #[.bool b.leaf, ve2, vk2, vs2]] w (GvN w a) := by
  have BW : Hid (Below w.heap.size w (((w.alloc (.cells #[.bool false, ve1, vk1, vs1] 26)).alloc (.cells #[.bool true, ve2, vk2, vs2] 26)).alloc (.cells #[.bool false, .slice none 0 0, .slice none 0 0, .slice none 0 0] 26))) := belAlloc _ (belAlloc _ (belAlloc _ (Below.refl _ _)))
  have K1 : Cl (((w.alloc (.cells #[.bool false, ve1, vk1, vs1] 26)).alloc (.cells #[.bool true, ve2, vk2, vs2] 26)).alloc (.cells #[.bool false, .slice none 0 0, .slice none 0 0, .slice none 0 0] 26)) w.heap.size #[.bool false, ve1, vk1, vs1] 26 := ((Cl.new0 _ _ _).alloc _).alloc _
  have K2 : Cl (((w.alloc (.cells #[.bool false, ve1, vk1, vs1] 26)).alloc (.cells #[.bool true, ve2, vk2, vs2] 26)).alloc (.cells #[.bool false, .slice none 0 0, .slice none 0 0, .slice none 0 0] 26)) (w.heap.size + 1) #[.bool true, ve2, vk2, vs2] 26 := (Cl.new1 _ _ _ _).alloc _
  have K3 : Cl (((w.alloc (.cells #[.bool false, ve1, vk1, vs1] 26)).alloc (.cells #[.bool true, ve2, vk2, vs2] 26)).alloc (.cells #[.bool false, .slice none 0 0, .slice none 0 0, .slice none 0 0] 26)) (w.heap.size + 1 + 1) #[.bool false, .slice none 0 0, .slice none 0 0, .slice none 0 0] 26 := Cl.new2 _ _ _ _ _
  have C : Hid _ := alone_any a ve1 vk1 vs1 (((w.alloc (.cells #[.bool false, ve1, vk1, vs1] 26)).alloc (.cells #[.bool true, ve2, vk2, vs2] 26)).alloc (.cells #[.bool false, .slice none 0 0, .slice none 0 0, .slice none 0 0] 26)) (h1.below BW.out) hm1
  rw [hlf] at C
  rw [hlf, hlg]
  obtain ⟨ae, ce, rfl, _⟩ := rowShape h1.e
  obtain ⟨ak, ck, rfl, _⟩ := rowShape h1.k
  obtain ⟨az, cz, rfl, _⟩ := rowShape h1.s
  have HL : Hid (a.leaf = false) := hlf
  clear h1 hlf hlg
  go_enter Try.func24, Try.ntmps24
  go_upto_region 1 with fail
  generalize (((w.alloc (.cells #[.bool false, .slice ae a.es.length ce, .slice ak a.ks.length ck, .slice az a.ss.length cz] 26)).alloc (.cells #[.bool true, ve2, vk2, vs2] 26)).alloc (.cells #[.bool false, .slice none 0 0, .slice none 0 0, .slice none 0 0] 26)) = W at *
  obtain ⟨p, hp⟩ : ∃ p, w.heap.size = p := ⟨_, rfl⟩
  rw [hp] at K1 K2 K3 BW ⊢
  obtain ⟨c0, c1, c2, c3⟩ := K1.four
  obtain ⟨d0, _, _, _⟩ := K2.four
  have l1 := K3.lt
  clear K1 K2
  go_wp2_with fail
  refine Calls.mono C.out ?_
  rintro e w1 ⟨ve', vk', vs', rfl, O1, B1⟩
  obtain ⟨av, cv, rfl⟩ := ownShape O1.e
  obtain ⟨bv, dv, rfl⟩ := ownShape O1.k
  obtain ⟨gv, hv, rfl⟩ := ownShape O1.s
  have K4 : Cl w1 (p + 1 + 1) #[.bool false, .slice none 0 0, .slice none 0 0, .slice none 0 0] 26 := K3.on B1
  obtain ⟨f0, f1, f2, f3⟩ := K4.four
  obtain ⟨g0, g1, g2, g3⟩ := K4.thaw
  have KF : Cl ((((w1.setCell ⟨p + 1 + 1, 0, none⟩ (.bool false)).setCell ⟨p + 1 + 1, 1, none⟩ (.slice av a.es.length cv)).setCell ⟨p + 1 + 1, 2, none⟩ (.slice bv a.ks.length dv)).setCell ⟨p + 1 + 1, 3, none⟩ (.slice gv a.ss.length hv)) (p + 1 + 1) #[.bool false, .slice av a.es.length cv, .slice bv a.ks.length dv, .slice gv a.ss.length hv] 26 := K4.set4 _ _ _ _
  have BF : Hid (Below p w ((((w1.setCell ⟨p + 1 + 1, 0, none⟩ (.bool false)).setCell ⟨p + 1 + 1, 1, none⟩ (.slice av a.es.length cv)).setCell ⟨p + 1 + 1, 2, none⟩ (.slice bv a.ks.length dv)).setCell ⟨p + 1 + 1, 3, none⟩ (.slice gv a.ss.length hv))) := belSet4 (BW.out.trans (B1.mono (by omega))) (by omega)
  have OF : Hid (NdO p ((((w1.setCell ⟨p + 1 + 1, 0, none⟩ (.bool false)).setCell ⟨p + 1 + 1, 1, none⟩ (.slice av a.es.length cv)).setCell ⟨p + 1 + 1, 2, none⟩ (.slice bv a.ks.length dv)).setCell ⟨p + 1 + 1, 3, none⟩ (.slice gv a.ss.length hv)) (.slice av a.es.length cv) (.slice bv a.ks.length dv) (.slice gv a.ss.length hv) a) := ⟨ownMono (ownSet4 O1.e l1) (by omega), ownMono (ownSet4 O1.k l1) (by omega), ownMono (ownSet4 O1.s l1) (by omega)⟩
  clear C B1 O1 K3 K4 c0 c1 c2 c3 d0
  go_wp2
  (try simp only [Exit.inBlock, Exit.then])
  generalize ((((w1.setCell ⟨p + 1 + 1, 0, none⟩ (.bool false)).setCell ⟨p + 1 + 1, 1, none⟩ (.slice av a.es.length cv)).setCell ⟨p + 1 + 1, 2, none⟩ (.slice bv a.ks.length dv)).setCell ⟨p + 1 + 1, 3, none⟩ (.slice gv a.ss.length hv)) = X at *
  obtain ⟨k0, k1, k2, k3⟩ := KF.four
  refine bodyPost_ret (v := .agg #[.bool false, .slice av a.es.length cv, .slice bv a.ks.length dv, .slice gv a.ss.length hv]) ?_ rfl ⟨_, _, _, by rw [HL.out], by rw [hp]; exact OF.out, by rw [hp]; exact BF.out⟩
  rw [results_cell rfl]
  go_simp

theorem joN_same {a b : Nd} {key : ByteArray} (h : a.leaf = b.leaf) : joN a key b = ⟨a.leaf, a.es ++ b.es, a.ks ++ b.ks, a.ss ++ (if a.leaf = true then [] else [key]) ++ b.ss⟩ := by unfold joN; rw [if_pos h]
theorem joN_un {a b : Nd} {key : ByteArray} (h : ¬ a.leaf = b.leaf) : joN a key b = a := by unfold joN; rw [if_neg h]

theorem njoin_any (key : ByteArray) (a b : Nd) (ve1 vk1 vs1 ve2 vk2 vs2 : Value) (w : World) (h1 : NdR w ve1 vk1 vs1 a) (h2 : NdR w ve2 vk2 vs2 b) (hm1 : SmL a) (hm2 : SmL b) :
    Calls Try.prog 24 #[.agg #[.bool a.leaf, ve1, vk1, vs1], .string key, .agg #[.bool b.leaf, ve2, vk2, vs2]] w (GvN w (joN a key b)) := by
  by_cases c : a.leaf = b.leaf
  · rw [joN_same c]
    obtain ⟨lf, es1, ks1, ss1⟩ := a
    obtain ⟨lg, es2, ks2, ss2⟩ := b
    simp only at c ⊢
    subst c
    cases lf
    · exact (join_inner key es1 es2 ks1 ks2 ss1 ss2 ve1 vk1 vs1 ve2 vk2 vs2 w h1 h2 hm1 hm2).mono fun e w' h => h
    · exact (join_leaf key es1 es2 ks1 ks2 ss1 ss2 ve1 vk1 vs1 ve2 vk2 vs2 w h1 h2 hm1 hm2).mono fun e w' h => h
  · rw [joN_un c]
    cases ha : a.leaf <;> cases hb : b.leaf
    · rw [ha, hb] at c; exact absurd rfl c
    · rw [← ha, ← hb]; exact join_unfalse key a b ve1 vk1 vs1 ve2 vk2 vs2 w h1 hm1 ha hb
    · rw [← ha, ← hb]; exact join_untrue key a b ve1 vk1 vs1 ve2 vk2 vs2 w h1 hm1 ha hb
    · rw [ha, hb] at c; exact absurd rfl c

/-- What holds between the operations of the region. -/
def JRepI (w0 : World) (ao ao2 ao3 : Option Addr) (n c n2 c2 p q ff tt : Nat) (x o y : List Int) (y4 y5 y6 y7 : Value) (f : List Bool) (a : Act) (w : World) : Prop :=
  ∃ f0 f1 f2 f3 f4 f5 f6 f7 f8 f9 f10 f11 f12 f13 f14 f15 : Bool, f = [f0, f1, f2, f3, f4, f5, f6, f7, f8, f9, f10, f11, f12, f13, f14, f15] ∧ f15 = false ∧ ∃ x9 x10 x11 x12 x13 x14 x15 x16 x17 x18 x19 x20 x21 x22 x23 : Value,
    a = { tmps := #[.slice ao n c, .int .i64 ff, .int .i64 tt, .slice ao2 n2 c2, y4, y5, y6, y7, .slice none 0 0, x9, x10, x11, x12, x13, x14, x15, x16, x17, x18, x19, x20, x21, x22, x23], defers := [] } ∧ Below w0.heap.size w0 w ∧
    Hid (f0 = true → x9 = .slice ao n c) ∧
    Hid (f1 = true → x10 = .int .i64 ff) ∧
    Hid (f2 = true → x11 = .slice ao n c) ∧
    Hid (f3 = true → x12 = .int .i64 n) ∧
    Hid (f4 = true → x13 = .int .i64 p) ∧
    Hid (f5 = true → x14 = .slice ao p c) ∧
    Hid (f6 = true → x15 = .slice ao2 n2 c2) ∧
    Hid (f7 = true → x16 = .slice ao n c) ∧
    Hid (f8 = true → x17 = .int .i64 tt) ∧
    Hid (f9 = true → x18 = .slice ao n c) ∧
    Hid (f10 = true → x19 = .int .i64 n) ∧
    Hid (f11 = true → x20 = .int .i64 q) ∧
    Hid (f12 = true → x21 = .slice ao3 (n - q) (c - q)) ∧
    Hid (f13 = true → ∃ qq, x22 = .slice (some ⟨qq, 0, none⟩) 3 3 ∧ Cl w qq #[.slice ao p c, .slice ao2 n2 c2, .slice ao3 (n - q) (c - q)] 23) ∧
    Hid (f14 = true → ∃ ao n c, x23 = .slice ao n c ∧ OwnI w0.heap.size w x23 (x ++ o ++ y))
theorem JRepI.elim {w0 : World} {ao ao2 ao3 : Option Addr} {n c n2 c2 p q ff tt : Nat} {x o y : List Int} {y4 y5 y6 y7 : Value} {f : List Bool} {a : Act} {w : World} {C : List Bool → Act → World → Prop} (h : JRepI w0 ao ao2 ao3 n c n2 c2 p q ff tt x o y y4 y5 y6 y7 f a w)
    (k : ∀ (f0 f1 f2 f3 f4 f5 f6 f7 f8 f9 f10 f11 f12 f13 f14 f15 : Bool) (x9 x10 x11 x12 x13 x14 x15 x16 x17 x18 x19 x20 x21 x22 x23 : Value), f15 = false → Below w0.heap.size w0 w →
      Hid (f0 = true → x9 = .slice ao n c) →
      Hid (f1 = true → x10 = .int .i64 ff) →
      Hid (f2 = true → x11 = .slice ao n c) →
      Hid (f3 = true → x12 = .int .i64 n) →
      Hid (f4 = true → x13 = .int .i64 p) →
      Hid (f5 = true → x14 = .slice ao p c) →
      Hid (f6 = true → x15 = .slice ao2 n2 c2) →
      Hid (f7 = true → x16 = .slice ao n c) →
      Hid (f8 = true → x17 = .int .i64 tt) →
      Hid (f9 = true → x18 = .slice ao n c) →
      Hid (f10 = true → x19 = .int .i64 n) →
      Hid (f11 = true → x20 = .int .i64 q) →
      Hid (f12 = true → x21 = .slice ao3 (n - q) (c - q)) →
      Hid (f13 = true → ∃ qq, x22 = .slice (some ⟨qq, 0, none⟩) 3 3 ∧ Cl w qq #[.slice ao p c, .slice ao2 n2 c2, .slice ao3 (n - q) (c - q)] 23) →
      Hid (f14 = true → ∃ ao n c, x23 = .slice ao n c ∧ OwnI w0.heap.size w x23 (x ++ o ++ y)) →
      C [f0, f1, f2, f3, f4, f5, f6, f7, f8, f9, f10, f11, f12, f13, f14, f15] { tmps := #[.slice ao n c, .int .i64 ff, .int .i64 tt, .slice ao2 n2 c2, y4, y5, y6, y7, .slice none 0 0, x9, x10, x11, x12, x13, x14, x15, x16, x17, x18, x19, x20, x21, x22, x23], defers := [] } w) : C f a w :=
  let ⟨f0, f1, f2, f3, f4, f5, f6, f7, f8, f9, f10, f11, f12, f13, f14, f15, ef, e, x9, x10, x11, x12, x13, x14, x15, x16, x17, x18, x19, x20, x21, x22, x23, ea, hB, h0, h1, h2, h3, h4, h5, h6, h7, h8, h9, h10, h11, h12, h13, h14⟩ := h
  ef ▸ ea ▸ k f0 f1 f2 f3 f4 f5 f6 f7 f8 f9 f10 f11 f12 f13 f14 f15 x9 x10 x11 x12 x13 x14 x15 x16 x17 x18 x19 x20 x21 x22 x23 e hB h0 h1 h2 h3 h4 h5 h6 h7 h8 h9 h10 h11 h12 h13 h14

set_option maxHeartbeats 4000000 in
set_option maxRecDepth 100000 in
theorem replacedI (v vo : Value) (l o : List Int) (fr tr : Nat) (w : World) (h : Row encI 1 w v l) (ho : Row encI 1 w vo o) (hl : l.length ≤ 10000) (hlo : o.length ≤ 10000) (hf : fr ≤ 100000) (ht : tr ≤ 100000) :
    Calls Try.prog 51 #[v, .int .i64 fr, .int .i64 tr, vo] w fun e w' => ∃ ao n c, e = .returned (.slice ao n c) ∧ OwnI w.heap.size w' (.slice ao n c) (rpL l fr tr o) ∧ Below w.heap.size w w' := by
  obtain ⟨ao, c, rfl, hc⟩ := rowShape h
  obtain ⟨ao2, c2, rfl, hc2⟩ := rowShape ho
  have P1 : Aside (Row encI 1 w (.slice ao (min fr l.length) c) (l.take (min fr l.length))) := rowPre (by decide) h _ (by omega)
  have P2 : Aside (Row encI 1 w (.slice ao2 o.length c2) o) := ho
  have P3 : Aside (Row encI 1 w _ (l.drop (min tr l.length))) := rowSuf (by decide) h (min tr l.length) (by omega)
  have e1 := run_preI ao l.length c (min fr l.length) (by omega)
  have e2 := run_sufI ao l.length c (min tr l.length) (by omega)
  generalize (if c = min tr l.length then ao else ao.map (·.add (min tr l.length * 1))) = ao3 at e2 P3
  have t1 : l.take (min fr l.length) = l.take fr := by
    rcases Nat.le_total fr l.length with d | d
    · rw [Nat.min_eq_left d]
    · rw [Nat.min_eq_right d, List.take_length, List.take_of_length_le d]
  have t3 : l.drop (min tr l.length) = l.drop tr := by
    rcases Nat.le_total tr l.length with d | d
    · rw [Nat.min_eq_left d]
    · rw [Nat.min_eq_right d, List.drop_length, List.drop_of_length_le d]
  rw [t1] at P1
  rw [t3] at P3
  obtain ⟨p, hp⟩ : ∃ p, min fr l.length = p := ⟨_, rfl⟩
  obtain ⟨q, hq⟩ : ∃ q, min tr l.length = q := ⟨_, rfl⟩
  have hpz : min (fr : Int) (l.length : Int) = (p : Int) := by omega
  have hqz : min (tr : Int) (l.length : Int) = (q : Int) := by omega
  rw [hp] at P1 e1
  rw [hq] at P3 e2
  have TOT : Hid (rpL l fr tr o = l.take fr ++ o ++ l.drop tr) := rfl
  have lx : (l.take fr).length ≤ 10000 := by rw [List.length_take]; omega
  have ly : (l.drop tr).length ≤ 10000 := by rw [List.length_drop]; omega
  generalize l.take fr = x at *
  generalize l.drop tr = y at *
  generalize rpL l fr tr o = out at *
  generalize l.length = n at *
  clear t1 t3 h ho hp hq
  go_enter Try.func51, Try.ntmps51
  go_wp2_with fail
  refine region_inv 15 (JRepI w ao ao2 ao3 n c o.length c2 p q fr tr x o y _ _ _ _) (by kernel_rfl) (by kernel_rfl) (by kernel_rfl) ⟨false, false, false, false, false, false, false, false, false, false, false, false, false, false, false, false, rfl, rfl, _, _, _, _, _, _, _, _, _, _, _, _, _, _, _, rfl, (Below.refl _ w).drew, (fun h => by cases h), (fun h => by cases h), (fun h => by cases h), (fun h => by cases h), (fun h => by cases h), (fun h => by cases h), (fun h => by cases h), (fun h => by cases h), (fun h => by cases h), (fun h => by cases h), (fun h => by cases h), (fun h => by cases h), (fun h => by cases h), (fun h => by cases h), (fun h => by cases h)⟩ ?_ ?_ ?_
  · intro i f a w' hne hl hJ
    refine JRepI.elim hJ (C := fun f a w' => i ∈ Region.ready .any _ f.toArray → wpOp _ _ _ i (fun a' w'' => JRepI w ao ao2 ao3 n c o.length c2 p q fr tr x o y _ _ _ _ (f.set i true) a' w'') a w') ?_
    clear hJ hl f a
    intro f0 f1 f2 f3 f4 f5 f6 f7 f8 f9 f10 f11 f12 f13 f14 f15 x9 x10 x11 x12 x13 x14 x15 x16 x17 x18 x19 x20 x21 x22 x23 e15 hB h0 h1 h2 h3 h4 h5 h6 h7 h8 h9 h10 h11 h12 h13 h14 hi
    obtain ⟨hlt, hun, _⟩ := ready_mem hi
    have hlt' : i < 16 := hlt
    clear hlt
    rcases (by omega : i = 0 ∨ i = 1 ∨ i = 2 ∨ i = 3 ∨ i = 4 ∨ i = 5 ∨ i = 6 ∨ i = 7 ∨ i = 8 ∨ i = 9 ∨ i = 10 ∨ i = 11 ∨ i = 12 ∨ i = 13 ∨ i = 14) with rfl | rfl | rfl | rfl | rfl | rfl | rfl | rfl | rfl | rfl | rfl | rfl | rfl | rfl | rfl
    · have un : f0 = false := hun
      clear hun
      clear hi hne hlt'
      refine wpOp_step rfl (fun K hK => ?_)
      have HK : Shut _ := hK
      clear hK
      go_simp
      refine HK.out _ _ ?_
      exact ⟨true, f1, f2, f3, f4, f5, f6, f7, f8, f9, f10, f11, f12, f13, f14, f15, rfl, e15, _, _, _, _, _, _, _, _, _, _, _, _, _, _, _, rfl, hB, (fun _ => rfl), h1, h2, h3, h4, h5, h6, h7, h8, h9, h10, h11, h12, h13, h14⟩
    · have un : f1 = false := hun
      clear hun
      clear hi hne hlt'
      refine wpOp_step rfl (fun K hK => ?_)
      have HK : Shut _ := hK
      clear hK
      go_simp
      refine HK.out _ _ ?_
      exact ⟨f0, true, f2, f3, f4, f5, f6, f7, f8, f9, f10, f11, f12, f13, f14, f15, rfl, e15, _, _, _, _, _, _, _, _, _, _, _, _, _, _, _, rfl, hB, h0, (fun _ => rfl), h2, h3, h4, h5, h6, h7, h8, h9, h10, h11, h12, h13, h14⟩
    · have un : f2 = false := hun
      clear hun
      clear hi hne hlt'
      refine wpOp_step rfl (fun K hK => ?_)
      have HK : Shut _ := hK
      clear hK
      go_simp
      refine HK.out _ _ ?_
      exact ⟨f0, f1, true, f3, f4, f5, f6, f7, f8, f9, f10, f11, f12, f13, f14, f15, rfl, e15, _, _, _, _, _, _, _, _, _, _, _, _, _, _, _, rfl, hB, h0, h1, (fun _ => rfl), h3, h4, h5, h6, h7, h8, h9, h10, h11, h12, h13, h14⟩
    · have un : f3 = false := hun
      clear hun
      have d2 : f2 = true := ready_dep 2 hi (by kernel_rfl)
      have y2 := h2.out d2
      subst y2
      clear hi hne hlt'
      refine wpOp_step rfl (fun K hK => ?_)
      have HK : Shut _ := hK
      clear hK
      go_simp
      refine HK.out _ _ ?_
      exact ⟨f0, f1, f2, true, f4, f5, f6, f7, f8, f9, f10, f11, f12, f13, f14, f15, rfl, e15, _, _, _, _, _, _, _, _, _, _, _, _, _, _, _, rfl, hB, h0, h1, h2, (fun _ => rfl), h4, h5, h6, h7, h8, h9, h10, h11, h12, h13, h14⟩
    · have un : f4 = false := hun
      clear hun
      have d1 : f1 = true := ready_dep 1 hi (by kernel_rfl)
      have y1 := h1.out d1
      subst y1
      have d3 : f3 = true := ready_dep 3 hi (by kernel_rfl)
      have y3 := h3.out d3
      subst y3
      clear hi hne hlt'
      refine wpOp_step rfl (fun K hK => ?_)
      have HK : Shut _ := hK
      clear hK
      go_simp
      refine HK.out _ _ ?_
      exact ⟨f0, f1, f2, f3, true, f5, f6, f7, f8, f9, f10, f11, f12, f13, f14, f15, rfl, e15, _, _, _, _, _, _, _, _, _, _, _, _, _, _, _, rfl, hB, h0, h1, h2, h3, (fun _ => rfl), h5, h6, h7, h8, h9, h10, h11, h12, h13, h14⟩
    · have un : f5 = false := hun
      clear hun
      have d0 : f0 = true := ready_dep 0 hi (by kernel_rfl)
      have y0 := h0.out d0
      subst y0
      have d4 : f4 = true := ready_dep 4 hi (by kernel_rfl)
      have y4 := h4.out d4
      subst y4
      clear hi hne hlt'
      refine wpOp_step rfl (fun K hK => ?_)
      have HK : Shut _ := hK
      clear hK
      go_simp
      refine HK.out _ _ ?_
      exact ⟨f0, f1, f2, f3, f4, true, f6, f7, f8, f9, f10, f11, f12, f13, f14, f15, rfl, e15, _, _, _, _, _, _, _, _, _, _, _, _, _, _, _, rfl, hB, h0, h1, h2, h3, h4, (fun _ => rfl), h6, h7, h8, h9, h10, h11, h12, h13, h14⟩
    · have un : f6 = false := hun
      clear hun
      clear hi hne hlt'
      refine wpOp_step rfl (fun K hK => ?_)
      have HK : Shut _ := hK
      clear hK
      go_simp
      refine HK.out _ _ ?_
      exact ⟨f0, f1, f2, f3, f4, f5, true, f7, f8, f9, f10, f11, f12, f13, f14, f15, rfl, e15, _, _, _, _, _, _, _, _, _, _, _, _, _, _, _, rfl, hB, h0, h1, h2, h3, h4, h5, (fun _ => rfl), h7, h8, h9, h10, h11, h12, h13, h14⟩
    · have un : f7 = false := hun
      clear hun
      clear hi hne hlt'
      refine wpOp_step rfl (fun K hK => ?_)
      have HK : Shut _ := hK
      clear hK
      go_simp
      refine HK.out _ _ ?_
      exact ⟨f0, f1, f2, f3, f4, f5, f6, true, f8, f9, f10, f11, f12, f13, f14, f15, rfl, e15, _, _, _, _, _, _, _, _, _, _, _, _, _, _, _, rfl, hB, h0, h1, h2, h3, h4, h5, h6, (fun _ => rfl), h8, h9, h10, h11, h12, h13, h14⟩
    · have un : f8 = false := hun
      clear hun
      clear hi hne hlt'
      refine wpOp_step rfl (fun K hK => ?_)
      have HK : Shut _ := hK
      clear hK
      go_simp
      refine HK.out _ _ ?_
      exact ⟨f0, f1, f2, f3, f4, f5, f6, f7, true, f9, f10, f11, f12, f13, f14, f15, rfl, e15, _, _, _, _, _, _, _, _, _, _, _, _, _, _, _, rfl, hB, h0, h1, h2, h3, h4, h5, h6, h7, (fun _ => rfl), h9, h10, h11, h12, h13, h14⟩
    · have un : f9 = false := hun
      clear hun
      clear hi hne hlt'
      refine wpOp_step rfl (fun K hK => ?_)
      have HK : Shut _ := hK
      clear hK
      go_simp
      refine HK.out _ _ ?_
      exact ⟨f0, f1, f2, f3, f4, f5, f6, f7, f8, true, f10, f11, f12, f13, f14, f15, rfl, e15, _, _, _, _, _, _, _, _, _, _, _, _, _, _, _, rfl, hB, h0, h1, h2, h3, h4, h5, h6, h7, h8, (fun _ => rfl), h10, h11, h12, h13, h14⟩
    · have un : f10 = false := hun
      clear hun
      have d9 : f9 = true := ready_dep 9 hi (by kernel_rfl)
      have y9 := h9.out d9
      subst y9
      clear hi hne hlt'
      refine wpOp_step rfl (fun K hK => ?_)
      have HK : Shut _ := hK
      clear hK
      go_simp
      refine HK.out _ _ ?_
      exact ⟨f0, f1, f2, f3, f4, f5, f6, f7, f8, f9, true, f11, f12, f13, f14, f15, rfl, e15, _, _, _, _, _, _, _, _, _, _, _, _, _, _, _, rfl, hB, h0, h1, h2, h3, h4, h5, h6, h7, h8, h9, (fun _ => rfl), h11, h12, h13, h14⟩
    · have un : f11 = false := hun
      clear hun
      have d8 : f8 = true := ready_dep 8 hi (by kernel_rfl)
      have y8 := h8.out d8
      subst y8
      have d10 : f10 = true := ready_dep 10 hi (by kernel_rfl)
      have y10 := h10.out d10
      subst y10
      clear hi hne hlt'
      refine wpOp_step rfl (fun K hK => ?_)
      have HK : Shut _ := hK
      clear hK
      go_simp
      refine HK.out _ _ ?_
      exact ⟨f0, f1, f2, f3, f4, f5, f6, f7, f8, f9, f10, true, f12, f13, f14, f15, rfl, e15, _, _, _, _, _, _, _, _, _, _, _, _, _, _, _, rfl, hB, h0, h1, h2, h3, h4, h5, h6, h7, h8, h9, h10, (fun _ => rfl), h12, h13, h14⟩
    · have un : f12 = false := hun
      clear hun
      have d7 : f7 = true := ready_dep 7 hi (by kernel_rfl)
      have y7 := h7.out d7
      subst y7
      have d11 : f11 = true := ready_dep 11 hi (by kernel_rfl)
      have y11 := h11.out d11
      subst y11
      clear hi hne hlt'
      refine wpOp_step rfl (fun K hK => ?_)
      have HK : Shut _ := hK
      clear hK
      go_simp
      refine HK.out _ _ ?_
      exact ⟨f0, f1, f2, f3, f4, f5, f6, f7, f8, f9, f10, f11, true, f13, f14, f15, rfl, e15, _, _, _, _, _, _, _, _, _, _, _, _, _, _, _, rfl, hB, h0, h1, h2, h3, h4, h5, h6, h7, h8, h9, h10, h11, (fun _ => rfl), h13, h14⟩
    · have un : f13 = false := hun
      clear hun
      have d5 : f5 = true := ready_dep 5 hi (by kernel_rfl)
      have y5 := h5.out d5
      subst y5
      have d6 : f6 = true := ready_dep 6 hi (by kernel_rfl)
      have y6 := h6.out d6
      subst y6
      have d12 : f12 = true := ready_dep 12 hi (by kernel_rfl)
      have y12 := h12.out d12
      subst y12
      clear hi hne hlt'
      refine wpOp_step rfl (fun K hK => ?_)
      have HK : Shut _ := hK
      clear hK
      go_simp
      refine HK.out _ _ ?_
      exact ⟨f0, f1, f2, f3, f4, f5, f6, f7, f8, f9, f10, f11, f12, true, f14, f15, rfl, e15, _, _, _, _, _, _, _, _, _, _, _, _, _, _, _, rfl, belAlloc _ hB, h0, h1, h2, h3, h4, h5, h6, h7, h8, h9, h10, h11, h12, (fun _ => ⟨_, rfl, Cl.new _ _ _⟩), (fun d => let ⟨ao, n, c, e, o⟩ := h14.out d; ⟨ao, n, c, e, ownsRow_below o (belAlloc _ (Below.refl _ _))⟩)⟩
    · have un : f14 = false := hun
      clear hun
      have d13 : f13 = true := ready_dep 13 hi (by kernel_rfl)
      obtain ⟨q13, y13, c13⟩ := h13.out d13
      subst y13
      clear hi hne hlt'
      refine wpOp_step rfl (fun K hK => ?_)
      have HK : Shut _ := hK
      clear hK
      go_simp
      refine Calls.mono (joinedI3 q13 23 (.slice ao p c) (.slice ao2 o.length c2) (.slice ao3 (n - q) (c - q)) x o y w' c13 (P1.out.below hB) (P2.out.below hB) (P3.out.below hB) (by omega)) ?_
      rintro e w1 ⟨ao, nn, cc, rfl, ow, b1⟩
      refine HK.out _ _ ?_
      exact ⟨f0, f1, f2, f3, f4, f5, f6, f7, f8, f9, f10, f11, f12, f13, true, f15, rfl, e15, _, _, _, _, _, _, _, _, _, _, _, _, _, _, _, rfl, belCall b1 hB, h0, h1, h2, h3, h4, h5, h6, h7, h8, h9, h10, h11, h12, (fun d => let ⟨q, e, c⟩ := h13.out d; ⟨q, e, Cl.on c (b1)⟩), (fun _ => ⟨ao, nn, cc, rfl, ownMono ow hB.size⟩)⟩
  · intro f a w' hl hJ
    refine JRepI.elim hJ (C := fun f a w' => 15 ∈ Region.ready .any _ f.toArray → wpOp _ _ _ 15 _ a w') ?_
    clear hJ hl f a
    intro f0 f1 f2 f3 f4 f5 f6 f7 f8 f9 f10 f11 f12 f13 f14 f15 x9 x10 x11 x12 x13 x14 x15 x16 x17 x18 x19 x20 x21 x22 x23 e15 hB h0 h1 h2 h3 h4 h5 h6 h7 h8 h9 h10 h11 h12 h13 h14 hi
    have d14 : f14 = true := ready_dep 14 hi (by kernel_rfl)
    obtain ⟨a14, n14, m14, y14, o14⟩ := h14.out d14
    subst y14
    clear hi
    refine wpOp_step rfl (fun K hK => ?_)
    have HK : Shut _ := hK
    clear hK
    go_simp
    refine HK.out _ _ ?_
    clear h0 h1 h2 h3 h4 h5 h6 h7 h8 h9 h10 h11 h12 h13 h14
    go_wp2
    go_ret
    exact ⟨_, _, _, rfl, by rw [TOT.out]; exact o14, hB⟩
  · rintro f a w' ⟨f0, f1, f2, f3, f4, f5, f6, f7, f8, f9, f10, f11, f12, f13, f14, f15, rfl, rfl, _⟩
    rfl

/-- What holds between the operations of the region. -/
def JRepS (w0 : World) (ao ao2 ao3 : Option Addr) (n c n2 c2 p q ff tt : Nat) (x o y : List ByteArray) (y4 y5 y6 y7 : Value) (f : List Bool) (a : Act) (w : World) : Prop :=
  ∃ f0 f1 f2 f3 f4 f5 f6 f7 f8 f9 f10 f11 f12 f13 f14 f15 : Bool, f = [f0, f1, f2, f3, f4, f5, f6, f7, f8, f9, f10, f11, f12, f13, f14, f15] ∧ f15 = false ∧ ∃ x9 x10 x11 x12 x13 x14 x15 x16 x17 x18 x19 x20 x21 x22 x23 : Value,
    a = { tmps := #[.slice ao n c, .int .i64 ff, .int .i64 tt, .slice ao2 n2 c2, y4, y5, y6, y7, .slice none 0 0, x9, x10, x11, x12, x13, x14, x15, x16, x17, x18, x19, x20, x21, x22, x23], defers := [] } ∧ Below w0.heap.size w0 w ∧
    Hid (f0 = true → x9 = .slice ao n c) ∧
    Hid (f1 = true → x10 = .int .i64 ff) ∧
    Hid (f2 = true → x11 = .slice ao n c) ∧
    Hid (f3 = true → x12 = .int .i64 n) ∧
    Hid (f4 = true → x13 = .int .i64 p) ∧
    Hid (f5 = true → x14 = .slice ao p c) ∧
    Hid (f6 = true → x15 = .slice ao2 n2 c2) ∧
    Hid (f7 = true → x16 = .slice ao n c) ∧
    Hid (f8 = true → x17 = .int .i64 tt) ∧
    Hid (f9 = true → x18 = .slice ao n c) ∧
    Hid (f10 = true → x19 = .int .i64 n) ∧
    Hid (f11 = true → x20 = .int .i64 q) ∧
    Hid (f12 = true → x21 = .slice ao3 (n - q) (c - q)) ∧
    Hid (f13 = true → ∃ qq, x22 = .slice (some ⟨qq, 0, none⟩) 3 3 ∧ Cl w qq #[.slice ao p c, .slice ao2 n2 c2, .slice ao3 (n - q) (c - q)] 24) ∧
    Hid (f14 = true → ∃ ao n c, x23 = .slice ao n c ∧ OwnS w0.heap.size w x23 (x ++ o ++ y))
theorem JRepS.elim {w0 : World} {ao ao2 ao3 : Option Addr} {n c n2 c2 p q ff tt : Nat} {x o y : List ByteArray} {y4 y5 y6 y7 : Value} {f : List Bool} {a : Act} {w : World} {C : List Bool → Act → World → Prop} (h : JRepS w0 ao ao2 ao3 n c n2 c2 p q ff tt x o y y4 y5 y6 y7 f a w)
    (k : ∀ (f0 f1 f2 f3 f4 f5 f6 f7 f8 f9 f10 f11 f12 f13 f14 f15 : Bool) (x9 x10 x11 x12 x13 x14 x15 x16 x17 x18 x19 x20 x21 x22 x23 : Value), f15 = false → Below w0.heap.size w0 w →
      Hid (f0 = true → x9 = .slice ao n c) →
      Hid (f1 = true → x10 = .int .i64 ff) →
      Hid (f2 = true → x11 = .slice ao n c) →
      Hid (f3 = true → x12 = .int .i64 n) →
      Hid (f4 = true → x13 = .int .i64 p) →
      Hid (f5 = true → x14 = .slice ao p c) →
      Hid (f6 = true → x15 = .slice ao2 n2 c2) →
      Hid (f7 = true → x16 = .slice ao n c) →
      Hid (f8 = true → x17 = .int .i64 tt) →
      Hid (f9 = true → x18 = .slice ao n c) →
      Hid (f10 = true → x19 = .int .i64 n) →
      Hid (f11 = true → x20 = .int .i64 q) →
      Hid (f12 = true → x21 = .slice ao3 (n - q) (c - q)) →
      Hid (f13 = true → ∃ qq, x22 = .slice (some ⟨qq, 0, none⟩) 3 3 ∧ Cl w qq #[.slice ao p c, .slice ao2 n2 c2, .slice ao3 (n - q) (c - q)] 24) →
      Hid (f14 = true → ∃ ao n c, x23 = .slice ao n c ∧ OwnS w0.heap.size w x23 (x ++ o ++ y)) →
      C [f0, f1, f2, f3, f4, f5, f6, f7, f8, f9, f10, f11, f12, f13, f14, f15] { tmps := #[.slice ao n c, .int .i64 ff, .int .i64 tt, .slice ao2 n2 c2, y4, y5, y6, y7, .slice none 0 0, x9, x10, x11, x12, x13, x14, x15, x16, x17, x18, x19, x20, x21, x22, x23], defers := [] } w) : C f a w :=
  let ⟨f0, f1, f2, f3, f4, f5, f6, f7, f8, f9, f10, f11, f12, f13, f14, f15, ef, e, x9, x10, x11, x12, x13, x14, x15, x16, x17, x18, x19, x20, x21, x22, x23, ea, hB, h0, h1, h2, h3, h4, h5, h6, h7, h8, h9, h10, h11, h12, h13, h14⟩ := h
  ef ▸ ea ▸ k f0 f1 f2 f3 f4 f5 f6 f7 f8 f9 f10 f11 f12 f13 f14 f15 x9 x10 x11 x12 x13 x14 x15 x16 x17 x18 x19 x20 x21 x22 x23 e hB h0 h1 h2 h3 h4 h5 h6 h7 h8 h9 h10 h11 h12 h13 h14

set_option maxHeartbeats 4000000 in
set_option maxRecDepth 100000 in
theorem replacedS (v vo : Value) (l o : List ByteArray) (fr tr : Nat) (w : World) (h : Row encS 1 w v l) (ho : Row encS 1 w vo o) (hl : l.length ≤ 10000) (hlo : o.length ≤ 10000) (hf : fr ≤ 100000) (ht : tr ≤ 100000) :
    Calls Try.prog 52 #[v, .int .i64 fr, .int .i64 tr, vo] w fun e w' => ∃ ao n c, e = .returned (.slice ao n c) ∧ OwnS w.heap.size w' (.slice ao n c) (rpL l fr tr o) ∧ Below w.heap.size w w' := by
  obtain ⟨ao, c, rfl, hc⟩ := rowShape h
  obtain ⟨ao2, c2, rfl, hc2⟩ := rowShape ho
  have P1 : Aside (Row encS 1 w (.slice ao (min fr l.length) c) (l.take (min fr l.length))) := rowPre (by decide) h _ (by omega)
  have P2 : Aside (Row encS 1 w (.slice ao2 o.length c2) o) := ho
  have P3 : Aside (Row encS 1 w _ (l.drop (min tr l.length))) := rowSuf (by decide) h (min tr l.length) (by omega)
  have e1 := run_preS ao l.length c (min fr l.length) (by omega)
  have e2 := run_sufS ao l.length c (min tr l.length) (by omega)
  generalize (if c = min tr l.length then ao else ao.map (·.add (min tr l.length * 1))) = ao3 at e2 P3
  have t1 : l.take (min fr l.length) = l.take fr := by
    rcases Nat.le_total fr l.length with d | d
    · rw [Nat.min_eq_left d]
    · rw [Nat.min_eq_right d, List.take_length, List.take_of_length_le d]
  have t3 : l.drop (min tr l.length) = l.drop tr := by
    rcases Nat.le_total tr l.length with d | d
    · rw [Nat.min_eq_left d]
    · rw [Nat.min_eq_right d, List.drop_length, List.drop_of_length_le d]
  rw [t1] at P1
  rw [t3] at P3
  obtain ⟨p, hp⟩ : ∃ p, min fr l.length = p := ⟨_, rfl⟩
  obtain ⟨q, hq⟩ : ∃ q, min tr l.length = q := ⟨_, rfl⟩
  have hpz : min (fr : Int) (l.length : Int) = (p : Int) := by omega
  have hqz : min (tr : Int) (l.length : Int) = (q : Int) := by omega
  rw [hp] at P1 e1
  rw [hq] at P3 e2
  have TOT : Hid (rpL l fr tr o = l.take fr ++ o ++ l.drop tr) := rfl
  have lx : (l.take fr).length ≤ 10000 := by rw [List.length_take]; omega
  have ly : (l.drop tr).length ≤ 10000 := by rw [List.length_drop]; omega
  generalize l.take fr = x at *
  generalize l.drop tr = y at *
  generalize rpL l fr tr o = out at *
  generalize l.length = n at *
  clear t1 t3 h ho hp hq
  go_enter Try.func52, Try.ntmps52
  go_wp2_with fail
  refine region_inv 15 (JRepS w ao ao2 ao3 n c o.length c2 p q fr tr x o y _ _ _ _) (by kernel_rfl) (by kernel_rfl) (by kernel_rfl) ⟨false, false, false, false, false, false, false, false, false, false, false, false, false, false, false, false, rfl, rfl, _, _, _, _, _, _, _, _, _, _, _, _, _, _, _, rfl, (Below.refl _ w).drew, (fun h => by cases h), (fun h => by cases h), (fun h => by cases h), (fun h => by cases h), (fun h => by cases h), (fun h => by cases h), (fun h => by cases h), (fun h => by cases h), (fun h => by cases h), (fun h => by cases h), (fun h => by cases h), (fun h => by cases h), (fun h => by cases h), (fun h => by cases h), (fun h => by cases h)⟩ ?_ ?_ ?_
  · intro i f a w' hne hl hJ
    refine JRepS.elim hJ (C := fun f a w' => i ∈ Region.ready .any _ f.toArray → wpOp _ _ _ i (fun a' w'' => JRepS w ao ao2 ao3 n c o.length c2 p q fr tr x o y _ _ _ _ (f.set i true) a' w'') a w') ?_
    clear hJ hl f a
    intro f0 f1 f2 f3 f4 f5 f6 f7 f8 f9 f10 f11 f12 f13 f14 f15 x9 x10 x11 x12 x13 x14 x15 x16 x17 x18 x19 x20 x21 x22 x23 e15 hB h0 h1 h2 h3 h4 h5 h6 h7 h8 h9 h10 h11 h12 h13 h14 hi
    obtain ⟨hlt, hun, _⟩ := ready_mem hi
    have hlt' : i < 16 := hlt
    clear hlt
    rcases (by omega : i = 0 ∨ i = 1 ∨ i = 2 ∨ i = 3 ∨ i = 4 ∨ i = 5 ∨ i = 6 ∨ i = 7 ∨ i = 8 ∨ i = 9 ∨ i = 10 ∨ i = 11 ∨ i = 12 ∨ i = 13 ∨ i = 14) with rfl | rfl | rfl | rfl | rfl | rfl | rfl | rfl | rfl | rfl | rfl | rfl | rfl | rfl | rfl
    · have un : f0 = false := hun
      clear hun
      clear hi hne hlt'
      refine wpOp_step rfl (fun K hK => ?_)
      have HK : Shut _ := hK
      clear hK
      go_simp
      refine HK.out _ _ ?_
      exact ⟨true, f1, f2, f3, f4, f5, f6, f7, f8, f9, f10, f11, f12, f13, f14, f15, rfl, e15, _, _, _, _, _, _, _, _, _, _, _, _, _, _, _, rfl, hB, (fun _ => rfl), h1, h2, h3, h4, h5, h6, h7, h8, h9, h10, h11, h12, h13, h14⟩
    · have un : f1 = false := hun
      clear hun
      clear hi hne hlt'
      refine wpOp_step rfl (fun K hK => ?_)
      have HK : Shut _ := hK
      clear hK
      go_simp
      refine HK.out _ _ ?_
      exact ⟨f0, true, f2, f3, f4, f5, f6, f7, f8, f9, f10, f11, f12, f13, f14, f15, rfl, e15, _, _, _, _, _, _, _, _, _, _, _, _, _, _, _, rfl, hB, h0, (fun _ => rfl), h2, h3, h4, h5, h6, h7, h8, h9, h10, h11, h12, h13, h14⟩
    · have un : f2 = false := hun
      clear hun
      clear hi hne hlt'
      refine wpOp_step rfl (fun K hK => ?_)
      have HK : Shut _ := hK
      clear hK
      go_simp
      refine HK.out _ _ ?_
      exact ⟨f0, f1, true, f3, f4, f5, f6, f7, f8, f9, f10, f11, f12, f13, f14, f15, rfl, e15, _, _, _, _, _, _, _, _, _, _, _, _, _, _, _, rfl, hB, h0, h1, (fun _ => rfl), h3, h4, h5, h6, h7, h8, h9, h10, h11, h12, h13, h14⟩
    · have un : f3 = false := hun
      clear hun
      have d2 : f2 = true := ready_dep 2 hi (by kernel_rfl)
      have y2 := h2.out d2
      subst y2
      clear hi hne hlt'
      refine wpOp_step rfl (fun K hK => ?_)
      have HK : Shut _ := hK
      clear hK
      go_simp
      refine HK.out _ _ ?_
      exact ⟨f0, f1, f2, true, f4, f5, f6, f7, f8, f9, f10, f11, f12, f13, f14, f15, rfl, e15, _, _, _, _, _, _, _, _, _, _, _, _, _, _, _, rfl, hB, h0, h1, h2, (fun _ => rfl), h4, h5, h6, h7, h8, h9, h10, h11, h12, h13, h14⟩
    · have un : f4 = false := hun
      clear hun
      have d1 : f1 = true := ready_dep 1 hi (by kernel_rfl)
      have y1 := h1.out d1
      subst y1
      have d3 : f3 = true := ready_dep 3 hi (by kernel_rfl)
      have y3 := h3.out d3
      subst y3
      clear hi hne hlt'
      refine wpOp_step rfl (fun K hK => ?_)
      have HK : Shut _ := hK
      clear hK
      go_simp
      refine HK.out _ _ ?_
      exact ⟨f0, f1, f2, f3, true, f5, f6, f7, f8, f9, f10, f11, f12, f13, f14, f15, rfl, e15, _, _, _, _, _, _, _, _, _, _, _, _, _, _, _, rfl, hB, h0, h1, h2, h3, (fun _ => rfl), h5, h6, h7, h8, h9, h10, h11, h12, h13, h14⟩
    · have un : f5 = false := hun
      clear hun
      have d0 : f0 = true := ready_dep 0 hi (by kernel_rfl)
      have y0 := h0.out d0
      subst y0
      have d4 : f4 = true := ready_dep 4 hi (by kernel_rfl)
      have y4 := h4.out d4
      subst y4
      clear hi hne hlt'
      refine wpOp_step rfl (fun K hK => ?_)
      have HK : Shut _ := hK
      clear hK
      go_simp
      refine HK.out _ _ ?_
      exact ⟨f0, f1, f2, f3, f4, true, f6, f7, f8, f9, f10, f11, f12, f13, f14, f15, rfl, e15, _, _, _, _, _, _, _, _, _, _, _, _, _, _, _, rfl, hB, h0, h1, h2, h3, h4, (fun _ => rfl), h6, h7, h8, h9, h10, h11, h12, h13, h14⟩
    · have un : f6 = false := hun
      clear hun
      clear hi hne hlt'
      refine wpOp_step rfl (fun K hK => ?_)
      have HK : Shut _ := hK
      clear hK
      go_simp
      refine HK.out _ _ ?_
      exact ⟨f0, f1, f2, f3, f4, f5, true, f7, f8, f9, f10, f11, f12, f13, f14, f15, rfl, e15, _, _, _, _, _, _, _, _, _, _, _, _, _, _, _, rfl, hB, h0, h1, h2, h3, h4, h5, (fun _ => rfl), h7, h8, h9, h10, h11, h12, h13, h14⟩
    · have un : f7 = false := hun
      clear hun
      clear hi hne hlt'
      refine wpOp_step rfl (fun K hK => ?_)
      have HK : Shut _ := hK
      clear hK
      go_simp
      refine HK.out _ _ ?_
      exact ⟨f0, f1, f2, f3, f4, f5, f6, true, f8, f9, f10, f11, f12, f13, f14, f15, rfl, e15, _, _, _, _, _, _, _, _, _, _, _, _, _, _, _, rfl, hB, h0, h1, h2, h3, h4, h5, h6, (fun _ => rfl), h8, h9, h10, h11, h12, h13, h14⟩
    · have un : f8 = false := hun
      clear hun
      clear hi hne hlt'
      refine wpOp_step rfl (fun K hK => ?_)
      have HK : Shut _ := hK
      clear hK
      go_simp
      refine HK.out _ _ ?_
      exact ⟨f0, f1, f2, f3, f4, f5, f6, f7, true, f9, f10, f11, f12, f13, f14, f15, rfl, e15, _, _, _, _, _, _, _, _, _, _, _, _, _, _, _, rfl, hB, h0, h1, h2, h3, h4, h5, h6, h7, (fun _ => rfl), h9, h10, h11, h12, h13, h14⟩
    · have un : f9 = false := hun
      clear hun
      clear hi hne hlt'
      refine wpOp_step rfl (fun K hK => ?_)
      have HK : Shut _ := hK
      clear hK
      go_simp
      refine HK.out _ _ ?_
      exact ⟨f0, f1, f2, f3, f4, f5, f6, f7, f8, true, f10, f11, f12, f13, f14, f15, rfl, e15, _, _, _, _, _, _, _, _, _, _, _, _, _, _, _, rfl, hB, h0, h1, h2, h3, h4, h5, h6, h7, h8, (fun _ => rfl), h10, h11, h12, h13, h14⟩
    · have un : f10 = false := hun
      clear hun
      have d9 : f9 = true := ready_dep 9 hi (by kernel_rfl)
      have y9 := h9.out d9
      subst y9
      clear hi hne hlt'
      refine wpOp_step rfl (fun K hK => ?_)
      have HK : Shut _ := hK
      clear hK
      go_simp
      refine HK.out _ _ ?_
      exact ⟨f0, f1, f2, f3, f4, f5, f6, f7, f8, f9, true, f11, f12, f13, f14, f15, rfl, e15, _, _, _, _, _, _, _, _, _, _, _, _, _, _, _, rfl, hB, h0, h1, h2, h3, h4, h5, h6, h7, h8, h9, (fun _ => rfl), h11, h12, h13, h14⟩
    · have un : f11 = false := hun
      clear hun
      have d8 : f8 = true := ready_dep 8 hi (by kernel_rfl)
      have y8 := h8.out d8
      subst y8
      have d10 : f10 = true := ready_dep 10 hi (by kernel_rfl)
      have y10 := h10.out d10
      subst y10
      clear hi hne hlt'
      refine wpOp_step rfl (fun K hK => ?_)
      have HK : Shut _ := hK
      clear hK
      go_simp
      refine HK.out _ _ ?_
      exact ⟨f0, f1, f2, f3, f4, f5, f6, f7, f8, f9, f10, true, f12, f13, f14, f15, rfl, e15, _, _, _, _, _, _, _, _, _, _, _, _, _, _, _, rfl, hB, h0, h1, h2, h3, h4, h5, h6, h7, h8, h9, h10, (fun _ => rfl), h12, h13, h14⟩
    · have un : f12 = false := hun
      clear hun
      have d7 : f7 = true := ready_dep 7 hi (by kernel_rfl)
      have y7 := h7.out d7
      subst y7
      have d11 : f11 = true := ready_dep 11 hi (by kernel_rfl)
      have y11 := h11.out d11
      subst y11
      clear hi hne hlt'
      refine wpOp_step rfl (fun K hK => ?_)
      have HK : Shut _ := hK
      clear hK
      go_simp
      refine HK.out _ _ ?_
      exact ⟨f0, f1, f2, f3, f4, f5, f6, f7, f8, f9, f10, f11, true, f13, f14, f15, rfl, e15, _, _, _, _, _, _, _, _, _, _, _, _, _, _, _, rfl, hB, h0, h1, h2, h3, h4, h5, h6, h7, h8, h9, h10, h11, (fun _ => rfl), h13, h14⟩
    · have un : f13 = false := hun
      clear hun
      have d5 : f5 = true := ready_dep 5 hi (by kernel_rfl)
      have y5 := h5.out d5
      subst y5
      have d6 : f6 = true := ready_dep 6 hi (by kernel_rfl)
      have y6 := h6.out d6
      subst y6
      have d12 : f12 = true := ready_dep 12 hi (by kernel_rfl)
      have y12 := h12.out d12
      subst y12
      clear hi hne hlt'
      refine wpOp_step rfl (fun K hK => ?_)
      have HK : Shut _ := hK
      clear hK
      go_simp
      refine HK.out _ _ ?_
      exact ⟨f0, f1, f2, f3, f4, f5, f6, f7, f8, f9, f10, f11, f12, true, f14, f15, rfl, e15, _, _, _, _, _, _, _, _, _, _, _, _, _, _, _, rfl, belAlloc _ hB, h0, h1, h2, h3, h4, h5, h6, h7, h8, h9, h10, h11, h12, (fun _ => ⟨_, rfl, Cl.new _ _ _⟩), (fun d => let ⟨ao, n, c, e, o⟩ := h14.out d; ⟨ao, n, c, e, ownsRow_below o (belAlloc _ (Below.refl _ _))⟩)⟩
    · have un : f14 = false := hun
      clear hun
      have d13 : f13 = true := ready_dep 13 hi (by kernel_rfl)
      obtain ⟨q13, y13, c13⟩ := h13.out d13
      subst y13
      clear hi hne hlt'
      refine wpOp_step rfl (fun K hK => ?_)
      have HK : Shut _ := hK
      clear hK
      go_simp
      refine Calls.mono (joinedS3 q13 24 (.slice ao p c) (.slice ao2 o.length c2) (.slice ao3 (n - q) (c - q)) x o y w' c13 (P1.out.below hB) (P2.out.below hB) (P3.out.below hB) (by omega)) ?_
      rintro e w1 ⟨ao, nn, cc, rfl, ow, b1⟩
      refine HK.out _ _ ?_
      exact ⟨f0, f1, f2, f3, f4, f5, f6, f7, f8, f9, f10, f11, f12, f13, true, f15, rfl, e15, _, _, _, _, _, _, _, _, _, _, _, _, _, _, _, rfl, belCall b1 hB, h0, h1, h2, h3, h4, h5, h6, h7, h8, h9, h10, h11, h12, (fun d => let ⟨q, e, c⟩ := h13.out d; ⟨q, e, Cl.on c (b1)⟩), (fun _ => ⟨ao, nn, cc, rfl, ownMono ow hB.size⟩)⟩
  · intro f a w' hl hJ
    refine JRepS.elim hJ (C := fun f a w' => 15 ∈ Region.ready .any _ f.toArray → wpOp _ _ _ 15 _ a w') ?_
    clear hJ hl f a
    intro f0 f1 f2 f3 f4 f5 f6 f7 f8 f9 f10 f11 f12 f13 f14 f15 x9 x10 x11 x12 x13 x14 x15 x16 x17 x18 x19 x20 x21 x22 x23 e15 hB h0 h1 h2 h3 h4 h5 h6 h7 h8 h9 h10 h11 h12 h13 h14 hi
    have d14 : f14 = true := ready_dep 14 hi (by kernel_rfl)
    obtain ⟨a14, n14, m14, y14, o14⟩ := h14.out d14
    subst y14
    clear hi
    refine wpOp_step rfl (fun K hK => ?_)
    have HK : Shut _ := hK
    clear hK
    go_simp
    refine HK.out _ _ ?_
    clear h0 h1 h2 h3 h4 h5 h6 h7 h8 h9 h10 h11 h12 h13 h14
    go_wp2
    go_ret
    exact ⟨_, _, _, rfl, by rw [TOT.out]; exact o14, hB⟩
  · rintro f a w' ⟨f0, f1, f2, f3, f4, f5, f6, f7, f8, f9, f10, f11, f12, f13, f14, f15, rfl, rfl, _⟩
    rfl

end Go.Proofs.Ytmamnlphhiaeoaa

/-
  The walk of the document's Join: two nodes in one.
-/
import Derived.Test.YtmamnlphhiaeoaaNdApp
import Derived.Test.YtmamnlphhiaeoaaNdSwap
namespace Go.Proofs.Ytmamnlphhiaeoaa
open Go.Shelf Go.RowKit Go.Lib Go.Sort

/-- A node that can be read is answered. -/
def GvR (w : World) (n : Nd) (e : Ending) (w' : World) : Prop := ∃ ve vk vs, e = .returned (.agg #[.bool n.leaf, ve, vk, vs]) ∧ NdR w' ve vk vs n ∧ Below w.heap.size w w'
theorem clTo {B q : Nat} {w w' : World} {cs : Array Value} {t : TypeId} (h : Cl w q cs t) (hb : Below B w w') (hq : q < B) : Cl w' q cs t := (hb.block q hq).trans h

set_option maxHeartbeats 4000000 in
set_option maxRecDepth 100000 in
theorem rjoin_un1 (key : ByteArray) (a b : Nd) (ve1 vk1 vs1 ve2 vk2 vs2 : Value) (w : World) (h1 : NdR w ve1 vk1 vs1 a) (hlf : a.leaf = true) (hlg : b.leaf = false) :
    Calls Try.prog 25 #[.agg #[.bool a.leaf, ve1, vk1, vs1], .string key, .agg #[.bool b.leaf, ve2, vk2, vs2]] w (GvR w a) := by
  obtain ⟨ae, ce, rfl, _⟩ := rowShape h1.e
  obtain ⟨ak, ck, rfl, _⟩ := rowShape h1.k
  obtain ⟨az, cz, rfl, _⟩ := rowShape h1.s
  rw [hlf, hlg]
  have BW : Below w.heap.size w (((w.alloc (.cells #[.bool true, .slice ae a.es.length ce, .slice ak a.ks.length ck, .slice az a.ss.length cz] 30)).alloc (.cells #[.bool false, ve2, vk2, vs2] 30)).alloc (.cells #[.bool false, .slice none 0 0, .slice none 0 0, .slice none 0 0] 30)) := belAlloc _ (belAlloc _ (belAlloc _ (Below.refl _ _)))
  have K1 : Cl (((w.alloc (.cells #[.bool true, .slice ae a.es.length ce, .slice ak a.ks.length ck, .slice az a.ss.length cz] 30)).alloc (.cells #[.bool false, ve2, vk2, vs2] 30)).alloc (.cells #[.bool false, .slice none 0 0, .slice none 0 0, .slice none 0 0] 30)) w.heap.size #[.bool true, .slice ae a.es.length ce, .slice ak a.ks.length ck, .slice az a.ss.length cz] 30 := ((Cl.new0 _ _ _).alloc _).alloc _
  have K2 : Cl (((w.alloc (.cells #[.bool true, .slice ae a.es.length ce, .slice ak a.ks.length ck, .slice az a.ss.length cz] 30)).alloc (.cells #[.bool false, ve2, vk2, vs2] 30)).alloc (.cells #[.bool false, .slice none 0 0, .slice none 0 0, .slice none 0 0] 30)) (w.heap.size + 1) #[.bool false, ve2, vk2, vs2] 30 := (Cl.new1 _ _ _ _).alloc _
  have K3 : Cl (((w.alloc (.cells #[.bool true, .slice ae a.es.length ce, .slice ak a.ks.length ck, .slice az a.ss.length cz] 30)).alloc (.cells #[.bool false, ve2, vk2, vs2] 30)).alloc (.cells #[.bool false, .slice none 0 0, .slice none 0 0, .slice none 0 0] 30)) (w.heap.size + 1 + 1) #[.bool false, .slice none 0 0, .slice none 0 0, .slice none 0 0] 30 := Cl.new2 _ _ _ _ _
  have H0 : Hid (NdR w (.slice ae a.es.length ce) (.slice ak a.ks.length ck) (.slice az a.ss.length cz) a) := h1
  have HL : Hid (a.leaf = true) := hlf
  clear h1 hlf hlg
  go_enter Try.func25, Try.ntmps25
  go_upto_region 1 with fail
  generalize (((w.alloc (.cells #[.bool true, .slice ae a.es.length ce, .slice ak a.ks.length ck, .slice az a.ss.length cz] 30)).alloc (.cells #[.bool false, ve2, vk2, vs2] 30)).alloc (.cells #[.bool false, .slice none 0 0, .slice none 0 0, .slice none 0 0] 30)) = W at *
  obtain ⟨p, hp⟩ : ∃ p, w.heap.size = p := ⟨_, rfl⟩
  rw [hp] at K1 K2 K3 BW ⊢
  obtain ⟨c0, c1, c2, c3⟩ := K1.four
  obtain ⟨d0, _, _, _⟩ := K2.four
  obtain ⟨f0, f1, f2, f3⟩ := K3.four
  obtain ⟨g0, g1, g2, g3⟩ := K3.thaw
  have X1 : Cl (set4 W (p + 1 + 1) (.bool true) (.slice ae a.es.length ce) (.slice ak a.ks.length ck) (.slice az a.ss.length cz)) (p + 1 + 1) #[.bool true, .slice ae a.es.length ce, .slice ak a.ks.length ck, .slice az a.ss.length cz] 30 := K3.set4 _ _ _ _
  have BX : Hid (Below (p + 1 + 1) W (set4 W (p + 1 + 1) (.bool true) (.slice ae a.es.length ce) (.slice ak a.ks.length ck) (.slice az a.ss.length cz))) := belSet4 (Below.refl _ _) (Nat.le_refl _)
  have BX0 : Hid (Below p w (set4 W (p + 1 + 1) (.bool true) (.slice ae a.es.length ce) (.slice ak a.ks.length ck) (.slice az a.ss.length cz))) := BW.trans (BX.out.mono (by omega))
  clear K1 K2 K3
  go_wp2
  (try simp only [Exit.inBlock, Exit.then])
  unfold set4 at X1 BX BX0
  generalize ((((W.setCell ⟨p + 1 + 1, 0, none⟩ (.bool true)).setCell ⟨p + 1 + 1, 1, none⟩ (.slice ae a.es.length ce)).setCell ⟨p + 1 + 1, 2, none⟩ (.slice ak a.ks.length ck)).setCell ⟨p + 1 + 1, 3, none⟩ (.slice az a.ss.length cz)) = X at *
  obtain ⟨k0, k1, k2, k3⟩ := X1.four
  refine bodyPost_ret (v := .agg #[.bool true, .slice ae a.es.length ce, .slice ak a.ks.length ck, .slice az a.ss.length cz]) ?_ rfl ⟨_, _, _, by rw [HL.out], H0.out.to BX0.out (by omega), by rw [hp]; exact BX0.out⟩
  rw [results_cell rfl]
  go_simp

set_option maxHeartbeats 4000000 in
set_option maxRecDepth 100000 in
theorem rjoin_un2 (key : ByteArray) (a b : Nd) (ve1 vk1 vs1 ve2 vk2 vs2 : Value) (w : World) (h1 : NdR w ve1 vk1 vs1 a) (hlf : a.leaf = false) (hlg : b.leaf = true) :
    Calls Try.prog 25 #[.agg #[.bool a.leaf, ve1, vk1, vs1], .string key, .agg #[.bool b.leaf, ve2, vk2, vs2]] w (GvR w a) := by
  obtain ⟨ae, ce, rfl, _⟩ := rowShape h1.e
  obtain ⟨ak, ck, rfl, _⟩ := rowShape h1.k
  obtain ⟨az, cz, rfl, _⟩ := rowShape h1.s
  rw [hlf, hlg]
  have BW : Below w.heap.size w (((w.alloc (.cells #[.bool false, .slice ae a.es.length ce, .slice ak a.ks.length ck, .slice az a.ss.length cz] 30)).alloc (.cells #[.bool true, ve2, vk2, vs2] 30)).alloc (.cells #[.bool false, .slice none 0 0, .slice none 0 0, .slice none 0 0] 30)) := belAlloc _ (belAlloc _ (belAlloc _ (Below.refl _ _)))
  have K1 : Cl (((w.alloc (.cells #[.bool false, .slice ae a.es.length ce, .slice ak a.ks.length ck, .slice az a.ss.length cz] 30)).alloc (.cells #[.bool true, ve2, vk2, vs2] 30)).alloc (.cells #[.bool false, .slice none 0 0, .slice none 0 0, .slice none 0 0] 30)) w.heap.size #[.bool false, .slice ae a.es.length ce, .slice ak a.ks.length ck, .slice az a.ss.length cz] 30 := ((Cl.new0 _ _ _).alloc _).alloc _
  have K2 : Cl (((w.alloc (.cells #[.bool false, .slice ae a.es.length ce, .slice ak a.ks.length ck, .slice az a.ss.length cz] 30)).alloc (.cells #[.bool true, ve2, vk2, vs2] 30)).alloc (.cells #[.bool false, .slice none 0 0, .slice none 0 0, .slice none 0 0] 30)) (w.heap.size + 1) #[.bool true, ve2, vk2, vs2] 30 := (Cl.new1 _ _ _ _).alloc _
  have K3 : Cl (((w.alloc (.cells #[.bool false, .slice ae a.es.length ce, .slice ak a.ks.length ck, .slice az a.ss.length cz] 30)).alloc (.cells #[.bool true, ve2, vk2, vs2] 30)).alloc (.cells #[.bool false, .slice none 0 0, .slice none 0 0, .slice none 0 0] 30)) (w.heap.size + 1 + 1) #[.bool false, .slice none 0 0, .slice none 0 0, .slice none 0 0] 30 := Cl.new2 _ _ _ _ _
  have H0 : Hid (NdR w (.slice ae a.es.length ce) (.slice ak a.ks.length ck) (.slice az a.ss.length cz) a) := h1
  have HL : Hid (a.leaf = false) := hlf
  clear h1 hlf hlg
  go_enter Try.func25, Try.ntmps25
  go_upto_region 1 with fail
  generalize (((w.alloc (.cells #[.bool false, .slice ae a.es.length ce, .slice ak a.ks.length ck, .slice az a.ss.length cz] 30)).alloc (.cells #[.bool true, ve2, vk2, vs2] 30)).alloc (.cells #[.bool false, .slice none 0 0, .slice none 0 0, .slice none 0 0] 30)) = W at *
  obtain ⟨p, hp⟩ : ∃ p, w.heap.size = p := ⟨_, rfl⟩
  rw [hp] at K1 K2 K3 BW ⊢
  obtain ⟨c0, c1, c2, c3⟩ := K1.four
  obtain ⟨d0, _, _, _⟩ := K2.four
  obtain ⟨f0, f1, f2, f3⟩ := K3.four
  obtain ⟨g0, g1, g2, g3⟩ := K3.thaw
  have X1 : Cl (set4 W (p + 1 + 1) (.bool false) (.slice ae a.es.length ce) (.slice ak a.ks.length ck) (.slice az a.ss.length cz)) (p + 1 + 1) #[.bool false, .slice ae a.es.length ce, .slice ak a.ks.length ck, .slice az a.ss.length cz] 30 := K3.set4 _ _ _ _
  have BX : Hid (Below (p + 1 + 1) W (set4 W (p + 1 + 1) (.bool false) (.slice ae a.es.length ce) (.slice ak a.ks.length ck) (.slice az a.ss.length cz))) := belSet4 (Below.refl _ _) (Nat.le_refl _)
  have BX0 : Hid (Below p w (set4 W (p + 1 + 1) (.bool false) (.slice ae a.es.length ce) (.slice ak a.ks.length ck) (.slice az a.ss.length cz))) := BW.trans (BX.out.mono (by omega))
  clear K1 K2 K3
  go_wp2
  (try simp only [Exit.inBlock, Exit.then])
  unfold set4 at X1 BX BX0
  generalize ((((W.setCell ⟨p + 1 + 1, 0, none⟩ (.bool false)).setCell ⟨p + 1 + 1, 1, none⟩ (.slice ae a.es.length ce)).setCell ⟨p + 1 + 1, 2, none⟩ (.slice ak a.ks.length ck)).setCell ⟨p + 1 + 1, 3, none⟩ (.slice az a.ss.length cz)) = X at *
  obtain ⟨k0, k1, k2, k3⟩ := X1.four
  refine bodyPost_ret (v := .agg #[.bool false, .slice ae a.es.length ce, .slice ak a.ks.length ck, .slice az a.ss.length cz]) ?_ rfl ⟨_, _, _, by rw [HL.out], H0.out.to BX0.out (by omega), by rw [hp]; exact BX0.out⟩
  rw [results_cell rfl]
  go_simp

set_option maxHeartbeats 8000000 in
set_option maxRecDepth 100000 in
theorem rjoin_leaf (key : ByteArray) (es1 es2 : List En) (ks1 ks2 : List Int) (ss1 ss2 : List ByteArray) (ve1 vk1 vs1 ve2 vk2 vs2 : Value) (w : World) (h1 : NdR w ve1 vk1 vs1 ⟨true, es1, ks1, ss1⟩) (h2 : NdR w ve2 vk2 vs2 ⟨true, es2, ks2, ss2⟩) (hm1 : SmL ⟨true, es1, ks1, ss1⟩) (hm2 : SmL ⟨true, es2, ks2, ss2⟩) :
    Calls Try.prog 25 #[.agg #[.bool true, ve1, vk1, vs1], .string key, .agg #[.bool true, ve2, vk2, vs2]] w (GvN w ⟨true, es1 ++ es2, ks1 ++ ks2, ss1 ++ [] ++ ss2⟩) := by
  obtain ⟨ae, ce, rfl, _⟩ := rowShape h1.e
  obtain ⟨ak, ck, rfl, _⟩ := rowShape h1.k
  obtain ⟨az, cz, rfl, _⟩ := rowShape h1.s
  obtain ⟨be, de, rfl, _⟩ := rowShape h2.e
  obtain ⟨bk, dk, rfl, _⟩ := rowShape h2.k
  obtain ⟨bz, dz, rfl, _⟩ := rowShape h2.s
  obtain ⟨m1, m2, m3⟩ := hm1
  obtain ⟨m4, m5, m6⟩ := hm2
  simp only at *
  have BW : Hid (Below w.heap.size w ((((w.alloc (.cells #[.bool true, .slice ae es1.length ce, .slice ak ks1.length ck, .slice az ss1.length cz] 30)).alloc (.cells #[.bool true, .slice be es2.length de, .slice bk ks2.length dk, .slice bz ss2.length dz] 30)).alloc (.cells #[.bool false, .slice none 0 0, .slice none 0 0, .slice none 0 0] 30)).alloc (.cells #[.bool true, .slice none 0 0, .slice none 0 0, .slice none 0 0] 30))) := belAlloc _ (belAlloc _ (belAlloc _ (belAlloc _ (Below.refl _ _))))
  have K1 : Cl ((((w.alloc (.cells #[.bool true, .slice ae es1.length ce, .slice ak ks1.length ck, .slice az ss1.length cz] 30)).alloc (.cells #[.bool true, .slice be es2.length de, .slice bk ks2.length dk, .slice bz ss2.length dz] 30)).alloc (.cells #[.bool false, .slice none 0 0, .slice none 0 0, .slice none 0 0] 30)).alloc (.cells #[.bool true, .slice none 0 0, .slice none 0 0, .slice none 0 0] 30)) w.heap.size #[.bool true, .slice ae es1.length ce, .slice ak ks1.length ck, .slice az ss1.length cz] 30 := (((Cl.new0 _ _ _).alloc _).alloc _).alloc _
  have K2 : Cl ((((w.alloc (.cells #[.bool true, .slice ae es1.length ce, .slice ak ks1.length ck, .slice az ss1.length cz] 30)).alloc (.cells #[.bool true, .slice be es2.length de, .slice bk ks2.length dk, .slice bz ss2.length dz] 30)).alloc (.cells #[.bool false, .slice none 0 0, .slice none 0 0, .slice none 0 0] 30)).alloc (.cells #[.bool true, .slice none 0 0, .slice none 0 0, .slice none 0 0] 30)) (w.heap.size + 1) #[.bool true, .slice be es2.length de, .slice bk ks2.length dk, .slice bz ss2.length dz] 30 := ((Cl.new1 _ _ _ _).alloc _).alloc _
  have K3 : Cl ((((w.alloc (.cells #[.bool true, .slice ae es1.length ce, .slice ak ks1.length ck, .slice az ss1.length cz] 30)).alloc (.cells #[.bool true, .slice be es2.length de, .slice bk ks2.length dk, .slice bz ss2.length dz] 30)).alloc (.cells #[.bool false, .slice none 0 0, .slice none 0 0, .slice none 0 0] 30)).alloc (.cells #[.bool true, .slice none 0 0, .slice none 0 0, .slice none 0 0] 30)) (w.heap.size + 1 + 1) #[.bool false, .slice none 0 0, .slice none 0 0, .slice none 0 0] 30 := (Cl.new2 _ _ _ _ _).alloc _
  have K4 : Cl ((((w.alloc (.cells #[.bool true, .slice ae es1.length ce, .slice ak ks1.length ck, .slice az ss1.length cz] 30)).alloc (.cells #[.bool true, .slice be es2.length de, .slice bk ks2.length dk, .slice bz ss2.length dz] 30)).alloc (.cells #[.bool false, .slice none 0 0, .slice none 0 0, .slice none 0 0] 30)).alloc (.cells #[.bool true, .slice none 0 0, .slice none 0 0, .slice none 0 0] 30)) (w.heap.size + 1 + 1 + 1) #[.bool true, .slice none 0 0, .slice none 0 0, .slice none 0 0] 30 := Cl.new3 _ _ _ _ _ _
  have sz4 : ((((w.alloc (.cells #[.bool true, .slice ae es1.length ce, .slice ak ks1.length ck, .slice az ss1.length cz] 30)).alloc (.cells #[.bool true, .slice be es2.length de, .slice bk ks2.length dk, .slice bz ss2.length dz] 30)).alloc (.cells #[.bool false, .slice none 0 0, .slice none 0 0, .slice none 0 0] 30)).alloc (.cells #[.bool true, .slice none 0 0, .slice none 0 0, .slice none 0 0] 30)).heap.size = w.heap.size + 1 + 1 + 1 + 1 := by simp
  have H1 : Aside (NdR w (.slice ae es1.length ce) (.slice ak ks1.length ck) (.slice az ss1.length cz) ⟨true, es1, ks1, ss1⟩) := h1
  have H2 : Aside (NdR w (.slice be es2.length de) (.slice bk ks2.length dk) (.slice bz ss2.length dz) ⟨true, es2, ks2, ss2⟩) := h2
  clear h1 h2
  go_enter Try.func25, Try.ntmps25
  go_upto_region 4 with fail
  generalize ((((w.alloc (.cells #[.bool true, .slice ae es1.length ce, .slice ak ks1.length ck, .slice az ss1.length cz] 30)).alloc (.cells #[.bool true, .slice be es2.length de, .slice bk ks2.length dk, .slice bz ss2.length dz] 30)).alloc (.cells #[.bool false, .slice none 0 0, .slice none 0 0, .slice none 0 0] 30)).alloc (.cells #[.bool true, .slice none 0 0, .slice none 0 0, .slice none 0 0] 30)) = W at *
  obtain ⟨p, hp⟩ : ∃ p, w.heap.size = p := ⟨_, rfl⟩
  have HP : Hid (w.heap.size = p) := hp
  rw [hp] at K1 K2 K3 K4 BW sz4 ⊢
  clear hp
  have OE0 : Aside (OwnP (p + 1 + 1 + 1 + 1) W (.slice none 0 0) []) := OwnP.empty _ _
  have OI0 : Aside (OwnI (p + 1 + 1 + 1 + 1) W (.slice none 0 0) []) := OwnI.empty _ _
  have OS0 : Aside (OwnS (p + 1 + 1 + 1 + 1) W (.slice none 0 0) []) := OwnS.empty _ _
  have B0 : Hid (Below (p + 1 + 1 + 1) W W) := Below.refl _ _
  have s0 : p + 1 + 1 + 1 + 1 ≤ W.heap.size := by omega
  clear sz4
  obtain ⟨c10, c11, c12, c13⟩ := (clTo K1 B0.out (by omega)).four
  obtain ⟨d10, d11, d12, d13⟩ := (clTo K2 B0.out (by omega)).four
  obtain ⟨f10, f11, f12, f13⟩ := K4.four
  have R1 : Aside (Row encP 2 W (.slice ae es1.length ce) es1) := (H1.out.to (BW.out.trans (B0.out.mono (by omega))) (by have := HP.out; omega)).e
  have Q1 : Aside (OwnP (p + 1 + 1 + 1 + 1) W (.slice none 0 0) ([])) := OE0.out
  have t1 : p + 1 + 1 + 1 + 1 ≤ W.heap.size := s0
  obtain ⟨l1, e1⟩ : ∃ x, [] ++ es1 = x := ⟨_, rfl⟩
  have g1 : l1.length ≤ 1000 := by rw [← e1, List.length_append]; simp only [List.length_nil]; omega
  have E1 : Hid ([] ++ es1 = l1) := e1
  clear e1
  go_wp2_with (at_builtin; refine appOE rfl _ _ rfl (p + 1 + 1 + 1 + 1) _ ([]) rfl Q1.out _ es1 rfl R1.out (by simp only [List.length_nil]; omega) t1 l1 E1.out ?_)
  intro a1 n1 m1 w1 P1 U1 O1
  have Y1 : Below (p + 1 + 1 + 1 + 1) W w1 := U1 _ (Below.refl _ _)
  have Z1 : Below (p + 1 + 1 + 1 + 1) W w1 := Y1
  have k1 := clTo K4 Z1 (Nat.lt_succ_self _)
  have y1 : p + 1 + 1 + 1 + 1 ≤ w1.heap.size := Nat.le_trans t1 Y1.size
  have N1E := P1
  have N1I : OwnI (p + 1 + 1 + 1 + 1) w1 (.slice none 0 0) ([]) := O1 _ _ _ _ _ _ (by decide) OI0.out
  have N1S : OwnS (p + 1 + 1 + 1 + 1) w1 (.slice none 0 0) ([]) := O1 _ _ _ _ _ _ (by decide) OS0.out
  obtain ⟨_, _, _, _⟩ := k1.thaw
  have K5 : Cl (w1.setCell ⟨p + 1 + 1 + 1, 1, none⟩ (.slice a1 n1 m1)) (p + 1 + 1 + 1) #[.bool true, .slice a1 n1 m1, .slice none 0 0, .slice none 0 0] 30 := k1.set 1 _
  have B1 : Hid (Below (p + 1 + 1 + 1) W (w1.setCell ⟨p + 1 + 1 + 1, 1, none⟩ (.slice a1 n1 m1))) := (B0.out.trans (Z1.mono (by omega))).setCell (p := ⟨p + 1 + 1 + 1, 1, none⟩) (Nat.le_refl _) _
  have s1 : p + 1 + 1 + 1 + 1 ≤ (w1.setCell ⟨p + 1 + 1 + 1, 1, none⟩ (.slice a1 n1 m1)).heap.size := by simp; omega
  have O1E : Aside (OwnP (p + 1 + 1 + 1 + 1) (w1.setCell ⟨p + 1 + 1 + 1, 1, none⟩ (.slice a1 n1 m1)) (.slice a1 n1 m1) (l1)) := ownsRow_setCell_below N1E (a := ⟨p + 1 + 1 + 1, 1, none⟩) (Nat.lt_succ_self _) _
  have O1I : Aside (OwnI (p + 1 + 1 + 1 + 1) (w1.setCell ⟨p + 1 + 1 + 1, 1, none⟩ (.slice a1 n1 m1)) (.slice none 0 0) ([])) := ownsRow_setCell_below N1I (a := ⟨p + 1 + 1 + 1, 1, none⟩) (Nat.lt_succ_self _) _
  have O1S : Aside (OwnS (p + 1 + 1 + 1 + 1) (w1.setCell ⟨p + 1 + 1 + 1, 1, none⟩ (.slice a1 n1 m1)) (.slice none 0 0) ([])) := ownsRow_setCell_below N1S (a := ⟨p + 1 + 1 + 1, 1, none⟩) (Nat.lt_succ_self _) _
  obtain ⟨h10, h11, h12, h13⟩ := k1.four
  clear P1 U1 O1 Y1 Z1 N1E N1I N1S R1 Q1 t1 c10 c11 c12 c13 d10 d11 d12 d13 f10 f11 f12 f13
  go_upto_region 5 with fail
  clear h10 h11 h12 h13 y1
  generalize (w1.setCell ⟨p + 1 + 1 + 1, 1, none⟩ (.slice a1 n1 m1)) = x1 at *
  clear k1 K4 OE0 OI0 OS0
  obtain ⟨c20, c21, c22, c23⟩ := (clTo K1 B1.out (by omega)).four
  obtain ⟨d20, d21, d22, d23⟩ := (clTo K2 B1.out (by omega)).four
  obtain ⟨f20, f21, f22, f23⟩ := K5.four
  have R2 : Aside (Row encP 2 x1 (.slice be es2.length de) es2) := (H2.out.to (BW.out.trans (B1.out.mono (by omega))) (by have := HP.out; omega)).e
  have Q2 : Aside (OwnP (p + 1 + 1 + 1 + 1) x1 (.slice a1 n1 m1) (l1)) := O1E.out
  have t2 : p + 1 + 1 + 1 + 1 ≤ x1.heap.size := s1
  obtain ⟨l2, e2⟩ : ∃ x, l1 ++ es2 = x := ⟨_, rfl⟩
  have g2 : l2.length ≤ 2000 := by rw [← e2, List.length_append]; omega
  have E2 : Hid (l1 ++ es2 = l2) := e2
  clear e2
  go_wp2_with (at_builtin; refine appOE rfl _ _ rfl (p + 1 + 1 + 1 + 1) _ (l1) rfl Q2.out _ es2 rfl R2.out (by omega) t2 l2 E2.out ?_)
  intro a2 n2 m2 w2 P2 U2 O2
  have Y2 : Below (p + 1 + 1 + 1 + 1) x1 w2 := U2 _ (Below.refl _ _)
  have Z2 : Below (p + 1 + 1 + 1 + 1) x1 w2 := Y2
  have k2 := clTo K5 Z2 (Nat.lt_succ_self _)
  have y2 : p + 1 + 1 + 1 + 1 ≤ w2.heap.size := Nat.le_trans t2 Y2.size
  have N2E := P2
  have N2I : OwnI (p + 1 + 1 + 1 + 1) w2 (.slice none 0 0) ([]) := O2 _ _ _ _ _ _ (by decide) O1I.out
  have N2S : OwnS (p + 1 + 1 + 1 + 1) w2 (.slice none 0 0) ([]) := O2 _ _ _ _ _ _ (by decide) O1S.out
  obtain ⟨_, _, _, _⟩ := k2.thaw
  have K6 : Cl (w2.setCell ⟨p + 1 + 1 + 1, 1, none⟩ (.slice a2 n2 m2)) (p + 1 + 1 + 1) #[.bool true, .slice a2 n2 m2, .slice none 0 0, .slice none 0 0] 30 := k2.set 1 _
  have B2 : Hid (Below (p + 1 + 1 + 1) W (w2.setCell ⟨p + 1 + 1 + 1, 1, none⟩ (.slice a2 n2 m2))) := (B1.out.trans (Z2.mono (by omega))).setCell (p := ⟨p + 1 + 1 + 1, 1, none⟩) (Nat.le_refl _) _
  have s2 : p + 1 + 1 + 1 + 1 ≤ (w2.setCell ⟨p + 1 + 1 + 1, 1, none⟩ (.slice a2 n2 m2)).heap.size := by simp; omega
  have O2E : Aside (OwnP (p + 1 + 1 + 1 + 1) (w2.setCell ⟨p + 1 + 1 + 1, 1, none⟩ (.slice a2 n2 m2)) (.slice a2 n2 m2) (l2)) := ownsRow_setCell_below N2E (a := ⟨p + 1 + 1 + 1, 1, none⟩) (Nat.lt_succ_self _) _
  have O2I : Aside (OwnI (p + 1 + 1 + 1 + 1) (w2.setCell ⟨p + 1 + 1 + 1, 1, none⟩ (.slice a2 n2 m2)) (.slice none 0 0) ([])) := ownsRow_setCell_below N2I (a := ⟨p + 1 + 1 + 1, 1, none⟩) (Nat.lt_succ_self _) _
  have O2S : Aside (OwnS (p + 1 + 1 + 1 + 1) (w2.setCell ⟨p + 1 + 1 + 1, 1, none⟩ (.slice a2 n2 m2)) (.slice none 0 0) ([])) := ownsRow_setCell_below N2S (a := ⟨p + 1 + 1 + 1, 1, none⟩) (Nat.lt_succ_self _) _
  obtain ⟨h20, h21, h22, h23⟩ := k2.four
  clear P2 U2 O2 Y2 Z2 N2E N2I N2S R2 Q2 t2 c20 c21 c22 c23 d20 d21 d22 d23 f20 f21 f22 f23
  go_upto_region 6 with fail
  clear h20 h21 h22 h23 y2
  generalize (w2.setCell ⟨p + 1 + 1 + 1, 1, none⟩ (.slice a2 n2 m2)) = x2 at *
  clear k2 K5 O1E O1I O1S
  clear B1 s1
  obtain ⟨c30, c31, c32, c33⟩ := (clTo K1 B2.out (by omega)).four
  obtain ⟨d30, d31, d32, d33⟩ := (clTo K2 B2.out (by omega)).four
  obtain ⟨f30, f31, f32, f33⟩ := K6.four
  have R3 : Aside (Row encI 1 x2 (.slice ak ks1.length ck) ks1) := (H1.out.to (BW.out.trans (B2.out.mono (by omega))) (by have := HP.out; omega)).k
  have Q3 : Aside (OwnI (p + 1 + 1 + 1 + 1) x2 (.slice none 0 0) ([])) := O2I.out
  have t3 : p + 1 + 1 + 1 + 1 ≤ x2.heap.size := s2
  obtain ⟨l3, e3⟩ : ∃ x, [] ++ ks1 = x := ⟨_, rfl⟩
  have g3 : l3.length ≤ 3000 := by rw [← e3, List.length_append]; simp only [List.length_nil]; omega
  have E3 : Hid ([] ++ ks1 = l3) := e3
  clear e3
  go_wp2_with (at_builtin; refine appOI rfl _ _ rfl (p + 1 + 1 + 1 + 1) _ ([]) rfl Q3.out _ ks1 rfl R3.out (by simp only [List.length_nil]; omega) t3 l3 E3.out ?_)
  intro a3 n3 m3 w3 P3 U3 O3
  have Y3 : Below (p + 1 + 1 + 1 + 1) x2 w3 := U3 _ (Below.refl _ _)
  have Z3 : Below (p + 1 + 1 + 1 + 1) x2 w3 := Y3
  have k3 := clTo K6 Z3 (Nat.lt_succ_self _)
  have y3 : p + 1 + 1 + 1 + 1 ≤ w3.heap.size := Nat.le_trans t3 Y3.size
  have N3E : OwnP (p + 1 + 1 + 1 + 1) w3 (.slice a2 n2 m2) (l2) := O3 _ _ _ _ _ _ (by decide) O2E.out
  have N3I := P3
  have N3S : OwnS (p + 1 + 1 + 1 + 1) w3 (.slice none 0 0) ([]) := O3 _ _ _ _ _ _ (by decide) O2S.out
  obtain ⟨_, _, _, _⟩ := k3.thaw
  have K7 : Cl (w3.setCell ⟨p + 1 + 1 + 1, 2, none⟩ (.slice a3 n3 m3)) (p + 1 + 1 + 1) #[.bool true, .slice a2 n2 m2, .slice a3 n3 m3, .slice none 0 0] 30 := k3.set 2 _
  have B3 : Hid (Below (p + 1 + 1 + 1) W (w3.setCell ⟨p + 1 + 1 + 1, 2, none⟩ (.slice a3 n3 m3))) := (B2.out.trans (Z3.mono (by omega))).setCell (p := ⟨p + 1 + 1 + 1, 2, none⟩) (Nat.le_refl _) _
  have s3 : p + 1 + 1 + 1 + 1 ≤ (w3.setCell ⟨p + 1 + 1 + 1, 2, none⟩ (.slice a3 n3 m3)).heap.size := by simp; omega
  have O3E : Aside (OwnP (p + 1 + 1 + 1 + 1) (w3.setCell ⟨p + 1 + 1 + 1, 2, none⟩ (.slice a3 n3 m3)) (.slice a2 n2 m2) (l2)) := ownsRow_setCell_below N3E (a := ⟨p + 1 + 1 + 1, 2, none⟩) (Nat.lt_succ_self _) _
  have O3I : Aside (OwnI (p + 1 + 1 + 1 + 1) (w3.setCell ⟨p + 1 + 1 + 1, 2, none⟩ (.slice a3 n3 m3)) (.slice a3 n3 m3) (l3)) := ownsRow_setCell_below N3I (a := ⟨p + 1 + 1 + 1, 2, none⟩) (Nat.lt_succ_self _) _
  have O3S : Aside (OwnS (p + 1 + 1 + 1 + 1) (w3.setCell ⟨p + 1 + 1 + 1, 2, none⟩ (.slice a3 n3 m3)) (.slice none 0 0) ([])) := ownsRow_setCell_below N3S (a := ⟨p + 1 + 1 + 1, 2, none⟩) (Nat.lt_succ_self _) _
  obtain ⟨h30, h31, h32, h33⟩ := k3.four
  clear P3 U3 O3 Y3 Z3 N3E N3I N3S R3 Q3 t3 c30 c31 c32 c33 d30 d31 d32 d33 f30 f31 f32 f33
  go_upto_region 7 with fail
  clear h30 h31 h32 h33 y3
  generalize (w3.setCell ⟨p + 1 + 1 + 1, 2, none⟩ (.slice a3 n3 m3)) = x3 at *
  clear k3 K6 O2E O2I O2S
  clear B2 s2
  obtain ⟨c40, c41, c42, c43⟩ := (clTo K1 B3.out (by omega)).four
  obtain ⟨d40, d41, d42, d43⟩ := (clTo K2 B3.out (by omega)).four
  obtain ⟨f40, f41, f42, f43⟩ := K7.four
  have R4 : Aside (Row encI 1 x3 (.slice bk ks2.length dk) ks2) := (H2.out.to (BW.out.trans (B3.out.mono (by omega))) (by have := HP.out; omega)).k
  have Q4 : Aside (OwnI (p + 1 + 1 + 1 + 1) x3 (.slice a3 n3 m3) (l3)) := O3I.out
  have t4 : p + 1 + 1 + 1 + 1 ≤ x3.heap.size := s3
  obtain ⟨l4, e4⟩ : ∃ x, l3 ++ ks2 = x := ⟨_, rfl⟩
  have g4 : l4.length ≤ 4000 := by rw [← e4, List.length_append]; omega
  have E4 : Hid (l3 ++ ks2 = l4) := e4
  clear e4
  go_wp2_with (at_builtin; refine appOI rfl _ _ rfl (p + 1 + 1 + 1 + 1) _ (l3) rfl Q4.out _ ks2 rfl R4.out (by omega) t4 l4 E4.out ?_)
  intro a4 n4 m4 w4 P4 U4 O4
  have Y4 : Below (p + 1 + 1 + 1 + 1) x3 w4 := U4 _ (Below.refl _ _)
  have Z4 : Below (p + 1 + 1 + 1 + 1) x3 w4 := Y4
  have k4 := clTo K7 Z4 (Nat.lt_succ_self _)
  have y4 : p + 1 + 1 + 1 + 1 ≤ w4.heap.size := Nat.le_trans t4 Y4.size
  have N4E : OwnP (p + 1 + 1 + 1 + 1) w4 (.slice a2 n2 m2) (l2) := O4 _ _ _ _ _ _ (by decide) O3E.out
  have N4I := P4
  have N4S : OwnS (p + 1 + 1 + 1 + 1) w4 (.slice none 0 0) ([]) := O4 _ _ _ _ _ _ (by decide) O3S.out
  obtain ⟨_, _, _, _⟩ := k4.thaw
  have K8 : Cl (w4.setCell ⟨p + 1 + 1 + 1, 2, none⟩ (.slice a4 n4 m4)) (p + 1 + 1 + 1) #[.bool true, .slice a2 n2 m2, .slice a4 n4 m4, .slice none 0 0] 30 := k4.set 2 _
  have B4 : Hid (Below (p + 1 + 1 + 1) W (w4.setCell ⟨p + 1 + 1 + 1, 2, none⟩ (.slice a4 n4 m4))) := (B3.out.trans (Z4.mono (by omega))).setCell (p := ⟨p + 1 + 1 + 1, 2, none⟩) (Nat.le_refl _) _
  have s4 : p + 1 + 1 + 1 + 1 ≤ (w4.setCell ⟨p + 1 + 1 + 1, 2, none⟩ (.slice a4 n4 m4)).heap.size := by simp; omega
  have O4E : Aside (OwnP (p + 1 + 1 + 1 + 1) (w4.setCell ⟨p + 1 + 1 + 1, 2, none⟩ (.slice a4 n4 m4)) (.slice a2 n2 m2) (l2)) := ownsRow_setCell_below N4E (a := ⟨p + 1 + 1 + 1, 2, none⟩) (Nat.lt_succ_self _) _
  have O4I : Aside (OwnI (p + 1 + 1 + 1 + 1) (w4.setCell ⟨p + 1 + 1 + 1, 2, none⟩ (.slice a4 n4 m4)) (.slice a4 n4 m4) (l4)) := ownsRow_setCell_below N4I (a := ⟨p + 1 + 1 + 1, 2, none⟩) (Nat.lt_succ_self _) _
  have O4S : Aside (OwnS (p + 1 + 1 + 1 + 1) (w4.setCell ⟨p + 1 + 1 + 1, 2, none⟩ (.slice a4 n4 m4)) (.slice none 0 0) ([])) := ownsRow_setCell_below N4S (a := ⟨p + 1 + 1 + 1, 2, none⟩) (Nat.lt_succ_self _) _
  obtain ⟨h40, h41, h42, h43⟩ := k4.four
  clear P4 U4 O4 Y4 Z4 N4E N4I N4S R4 Q4 t4 c40 c41 c42 c43 d40 d41 d42 d43 f40 f41 f42 f43
  go_upto_region 8 with fail
  clear h40 h41 h42 h43 y4
  generalize (w4.setCell ⟨p + 1 + 1 + 1, 2, none⟩ (.slice a4 n4 m4)) = x4 at *
  clear k4 K7 O3E O3I O3S
  clear B3 s3
  obtain ⟨c50, c51, c52, c53⟩ := (clTo K1 B4.out (by omega)).four
  obtain ⟨d50, d51, d52, d53⟩ := (clTo K2 B4.out (by omega)).four
  obtain ⟨f50, f51, f52, f53⟩ := K8.four
  have R5 : Aside (Row encS 1 x4 (.slice az ss1.length cz) ss1) := (H1.out.to (BW.out.trans (B4.out.mono (by omega))) (by have := HP.out; omega)).s
  have Q5 : Aside (OwnS (p + 1 + 1 + 1 + 1) x4 (.slice none 0 0) ([])) := O4S.out
  have t5 : p + 1 + 1 + 1 + 1 ≤ x4.heap.size := s4
  obtain ⟨l5, e5⟩ : ∃ x, [] ++ ss1 = x := ⟨_, rfl⟩
  have g5 : l5.length ≤ 5000 := by rw [← e5, List.length_append]; simp only [List.length_nil]; omega
  have E5 : Hid ([] ++ ss1 = l5) := e5
  clear e5
  go_wp2_with (at_builtin; refine appOS rfl _ _ rfl (p + 1 + 1 + 1 + 1) _ ([]) rfl Q5.out _ ss1 rfl R5.out (by simp only [List.length_nil]; omega) t5 l5 E5.out ?_)
  intro a5 n5 m5 w5 P5 U5 O5
  have Y5 : Below (p + 1 + 1 + 1 + 1) x4 w5 := U5 _ (Below.refl _ _)
  have Z5 : Below (p + 1 + 1 + 1 + 1) x4 w5 := Y5
  have k5 := clTo K8 Z5 (Nat.lt_succ_self _)
  have y5 : p + 1 + 1 + 1 + 1 ≤ w5.heap.size := Nat.le_trans t5 Y5.size
  have N5E : OwnP (p + 1 + 1 + 1 + 1) w5 (.slice a2 n2 m2) (l2) := O5 _ _ _ _ _ _ (by decide) O4E.out
  have N5I : OwnI (p + 1 + 1 + 1 + 1) w5 (.slice a4 n4 m4) (l4) := O5 _ _ _ _ _ _ (by decide) O4I.out
  have N5S := P5
  obtain ⟨_, _, _, _⟩ := k5.thaw
  have K9 : Cl (w5.setCell ⟨p + 1 + 1 + 1, 3, none⟩ (.slice a5 n5 m5)) (p + 1 + 1 + 1) #[.bool true, .slice a2 n2 m2, .slice a4 n4 m4, .slice a5 n5 m5] 30 := k5.set 3 _
  have B5 : Hid (Below (p + 1 + 1 + 1) W (w5.setCell ⟨p + 1 + 1 + 1, 3, none⟩ (.slice a5 n5 m5))) := (B4.out.trans (Z5.mono (by omega))).setCell (p := ⟨p + 1 + 1 + 1, 3, none⟩) (Nat.le_refl _) _
  have s5 : p + 1 + 1 + 1 + 1 ≤ (w5.setCell ⟨p + 1 + 1 + 1, 3, none⟩ (.slice a5 n5 m5)).heap.size := by simp; omega
  have O5E : Aside (OwnP (p + 1 + 1 + 1 + 1) (w5.setCell ⟨p + 1 + 1 + 1, 3, none⟩ (.slice a5 n5 m5)) (.slice a2 n2 m2) (l2)) := ownsRow_setCell_below N5E (a := ⟨p + 1 + 1 + 1, 3, none⟩) (Nat.lt_succ_self _) _
  have O5I : Aside (OwnI (p + 1 + 1 + 1 + 1) (w5.setCell ⟨p + 1 + 1 + 1, 3, none⟩ (.slice a5 n5 m5)) (.slice a4 n4 m4) (l4)) := ownsRow_setCell_below N5I (a := ⟨p + 1 + 1 + 1, 3, none⟩) (Nat.lt_succ_self _) _
  have O5S : Aside (OwnS (p + 1 + 1 + 1 + 1) (w5.setCell ⟨p + 1 + 1 + 1, 3, none⟩ (.slice a5 n5 m5)) (.slice a5 n5 m5) (l5)) := ownsRow_setCell_below N5S (a := ⟨p + 1 + 1 + 1, 3, none⟩) (Nat.lt_succ_self _) _
  obtain ⟨h50, h51, h52, h53⟩ := k5.four
  clear P5 U5 O5 Y5 Z5 N5E N5I N5S R5 Q5 t5 c50 c51 c52 c53 d50 d51 d52 d53 f50 f51 f52 f53
  go_upto_region 9 with fail
  clear h50 h51 h52 h53 y5
  generalize (w5.setCell ⟨p + 1 + 1 + 1, 3, none⟩ (.slice a5 n5 m5)) = x5 at *
  clear k5 K8 O4E O4I O4S
  clear B4 s4
  obtain ⟨i0, _, _, _⟩ := (clTo K1 B5.out (by omega)).four
  go_upto_region 11 with fail
  clear i0
  obtain ⟨c60, c61, c62, c63⟩ := (clTo K1 B5.out (by omega)).four
  obtain ⟨d60, d61, d62, d63⟩ := (clTo K2 B5.out (by omega)).four
  obtain ⟨f60, f61, f62, f63⟩ := K9.four
  have R6 : Aside (Row encS 1 x5 (.slice bz ss2.length dz) ss2) := (H2.out.to (BW.out.trans (B5.out.mono (by omega))) (by have := HP.out; omega)).s
  have Q6 : Aside (OwnS (p + 1 + 1 + 1 + 1) x5 (.slice a5 n5 m5) (l5)) := O5S.out
  have t6 : p + 1 + 1 + 1 + 1 ≤ x5.heap.size := s5
  obtain ⟨l6, e6⟩ : ∃ x, l5 ++ ss2 = x := ⟨_, rfl⟩
  have g6 : l6.length ≤ 6000 := by rw [← e6, List.length_append]; omega
  have E6 : Hid (l5 ++ ss2 = l6) := e6
  clear e6
  go_wp2_with (at_builtin; refine appOS rfl _ _ rfl (p + 1 + 1 + 1 + 1) _ (l5) rfl Q6.out _ ss2 rfl R6.out (by omega) t6 l6 E6.out ?_)
  intro a6 n6 m6 w6 P6 U6 O6
  have Y6 : Below (p + 1 + 1 + 1 + 1) x5 w6 := U6 _ (Below.refl _ _)
  have Z6 : Below (p + 1 + 1 + 1 + 1) x5 w6 := Y6
  have k6 := clTo K9 Z6 (Nat.lt_succ_self _)
  have y6 : p + 1 + 1 + 1 + 1 ≤ w6.heap.size := Nat.le_trans t6 Y6.size
  have N6E : OwnP (p + 1 + 1 + 1 + 1) w6 (.slice a2 n2 m2) (l2) := O6 _ _ _ _ _ _ (by decide) O5E.out
  have N6I : OwnI (p + 1 + 1 + 1 + 1) w6 (.slice a4 n4 m4) (l4) := O6 _ _ _ _ _ _ (by decide) O5I.out
  have N6S := P6
  obtain ⟨_, _, _, _⟩ := k6.thaw
  have K10 : Cl (w6.setCell ⟨p + 1 + 1 + 1, 3, none⟩ (.slice a6 n6 m6)) (p + 1 + 1 + 1) #[.bool true, .slice a2 n2 m2, .slice a4 n4 m4, .slice a6 n6 m6] 30 := k6.set 3 _
  have B6 : Hid (Below (p + 1 + 1 + 1) W (w6.setCell ⟨p + 1 + 1 + 1, 3, none⟩ (.slice a6 n6 m6))) := (B5.out.trans (Z6.mono (by omega))).setCell (p := ⟨p + 1 + 1 + 1, 3, none⟩) (Nat.le_refl _) _
  have s6 : p + 1 + 1 + 1 + 1 ≤ (w6.setCell ⟨p + 1 + 1 + 1, 3, none⟩ (.slice a6 n6 m6)).heap.size := by simp; omega
  have O6E : Aside (OwnP (p + 1 + 1 + 1 + 1) (w6.setCell ⟨p + 1 + 1 + 1, 3, none⟩ (.slice a6 n6 m6)) (.slice a2 n2 m2) (l2)) := ownsRow_setCell_below N6E (a := ⟨p + 1 + 1 + 1, 3, none⟩) (Nat.lt_succ_self _) _
  have O6I : Aside (OwnI (p + 1 + 1 + 1 + 1) (w6.setCell ⟨p + 1 + 1 + 1, 3, none⟩ (.slice a6 n6 m6)) (.slice a4 n4 m4) (l4)) := ownsRow_setCell_below N6I (a := ⟨p + 1 + 1 + 1, 3, none⟩) (Nat.lt_succ_self _) _
  have O6S : Aside (OwnS (p + 1 + 1 + 1 + 1) (w6.setCell ⟨p + 1 + 1 + 1, 3, none⟩ (.slice a6 n6 m6)) (.slice a6 n6 m6) (l6)) := ownsRow_setCell_below N6S (a := ⟨p + 1 + 1 + 1, 3, none⟩) (Nat.lt_succ_self _) _
  obtain ⟨h60, h61, h62, h63⟩ := k6.four
  clear P6 U6 O6 Y6 Z6 N6E N6I N6S R6 Q6 t6 c60 c61 c62 c63 d60 d61 d62 d63 f60 f61 f62 f63
  go_upto_region 12 with fail
  clear h60 h61 h62 h63 y6
  generalize (w6.setCell ⟨p + 1 + 1 + 1, 3, none⟩ (.slice a6 n6 m6)) = x6 at *
  clear k6 K9 O5E O5I O5S
  clear B5 s5
  have q1 : es1 ++ es2 = l2 := by rw [← E2.out, ← E1.out]; simp
  have q2 : ks1 ++ ks2 = l4 := by rw [← E4.out, ← E3.out]; simp
  have q3 : ss1 ++ [] ++ ss2 = l6 := by rw [← E6.out, ← E5.out]; simp
  have k3 := clTo K3 B6.out (by omega)
  obtain ⟨f0, f1, f2, f3⟩ := k3.four
  obtain ⟨g0, g1, g2, g3⟩ := k3.thaw
  obtain ⟨h0, h1, h2, h3⟩ := K10.four
  have X1 : Cl (((((x6.setCell ⟨p + 1 + 1, 0, none⟩ (.bool true)).setCell ⟨p + 1 + 1, 1, none⟩ (.slice a2 n2 m2)).setCell ⟨p + 1 + 1, 2, none⟩ (.slice a4 n4 m4)).setCell ⟨p + 1 + 1, 3, none⟩ (.slice a6 n6 m6))) (p + 1 + 1) #[.bool true, .slice a2 n2 m2, .slice a4 n4 m4, .slice a6 n6 m6] 30 := k3.set4 _ _ _ _
  have BX : Hid (Below p w (((((x6.setCell ⟨p + 1 + 1, 0, none⟩ (.bool true)).setCell ⟨p + 1 + 1, 1, none⟩ (.slice a2 n2 m2)).setCell ⟨p + 1 + 1, 2, none⟩ (.slice a4 n4 m4)).setCell ⟨p + 1 + 1, 3, none⟩ (.slice a6 n6 m6)))) := belSet4 (BW.out.trans (B6.out.mono (by omega))) (by omega)
  have NX : Hid (NdO p (((((x6.setCell ⟨p + 1 + 1, 0, none⟩ (.bool true)).setCell ⟨p + 1 + 1, 1, none⟩ (.slice a2 n2 m2)).setCell ⟨p + 1 + 1, 2, none⟩ (.slice a4 n4 m4)).setCell ⟨p + 1 + 1, 3, none⟩ (.slice a6 n6 m6))) (.slice a2 n2 m2) (.slice a4 n4 m4) (.slice a6 n6 m6) ⟨true, l2, l4, l6⟩) := NdO.mono (base := p + 1 + 1 + 1 + 1) ⟨ownSet4 O6E.out (by omega), ownSet4 O6I.out (by omega), ownSet4 O6S.out (by omega)⟩ (by omega)
  have QQ : Hid ((⟨true, es1 ++ es2, ks1 ++ ks2, ss1 ++ [] ++ ss2⟩ : Nd) = ⟨true, l2, l4, l6⟩) := by show _ = _; rw [q1, q2, q3]
  clear q1 q2 q3 K10 K1 K2 K3 k3
  go_wp2
  (try simp only [Exit.inBlock, Exit.then])
  clear f0 f1 f2 f3 g0 g1 g2 g3 h0 h1 h2 h3
  rw [QQ.out]
  generalize (((((x6.setCell ⟨p + 1 + 1, 0, none⟩ (.bool true)).setCell ⟨p + 1 + 1, 1, none⟩ (.slice a2 n2 m2)).setCell ⟨p + 1 + 1, 2, none⟩ (.slice a4 n4 m4)).setCell ⟨p + 1 + 1, 3, none⟩ (.slice a6 n6 m6))) = X at *
  obtain ⟨k0, k1, k2, k3⟩ := X1.four
  refine bodyPost_ret (v := .agg #[.bool true, .slice a2 n2 m2, .slice a4 n4 m4, .slice a6 n6 m6]) ?_ rfl ⟨_, _, _, rfl, by rw [HP.out]; exact NX.out, by rw [HP.out]; exact BX.out⟩
  rw [results_cell rfl]
  go_simp

set_option maxHeartbeats 8000000 in
set_option maxRecDepth 100000 in
theorem rjoin_inner (key : ByteArray) (es1 es2 : List En) (ks1 ks2 : List Int) (ss1 ss2 : List ByteArray) (ve1 vk1 vs1 ve2 vk2 vs2 : Value) (w : World) (h1 : NdR w ve1 vk1 vs1 ⟨false, es1, ks1, ss1⟩) (h2 : NdR w ve2 vk2 vs2 ⟨false, es2, ks2, ss2⟩) (hm1 : SmL ⟨false, es1, ks1, ss1⟩) (hm2 : SmL ⟨false, es2, ks2, ss2⟩) :
    Calls Try.prog 25 #[.agg #[.bool false, ve1, vk1, vs1], .string key, .agg #[.bool false, ve2, vk2, vs2]] w (GvN w ⟨false, es1 ++ es2, ks1 ++ ks2, ss1 ++ [key] ++ ss2⟩) := by
  obtain ⟨ae, ce, rfl, _⟩ := rowShape h1.e
  obtain ⟨ak, ck, rfl, _⟩ := rowShape h1.k
  obtain ⟨az, cz, rfl, _⟩ := rowShape h1.s
  obtain ⟨be, de, rfl, _⟩ := rowShape h2.e
  obtain ⟨bk, dk, rfl, _⟩ := rowShape h2.k
  obtain ⟨bz, dz, rfl, _⟩ := rowShape h2.s
  obtain ⟨m1, m2, m3⟩ := hm1
  obtain ⟨m4, m5, m6⟩ := hm2
  simp only at *
  have BW : Hid (Below w.heap.size w ((((w.alloc (.cells #[.bool false, .slice ae es1.length ce, .slice ak ks1.length ck, .slice az ss1.length cz] 30)).alloc (.cells #[.bool false, .slice be es2.length de, .slice bk ks2.length dk, .slice bz ss2.length dz] 30)).alloc (.cells #[.bool false, .slice none 0 0, .slice none 0 0, .slice none 0 0] 30)).alloc (.cells #[.bool false, .slice none 0 0, .slice none 0 0, .slice none 0 0] 30))) := belAlloc _ (belAlloc _ (belAlloc _ (belAlloc _ (Below.refl _ _))))
  have K1 : Cl ((((w.alloc (.cells #[.bool false, .slice ae es1.length ce, .slice ak ks1.length ck, .slice az ss1.length cz] 30)).alloc (.cells #[.bool false, .slice be es2.length de, .slice bk ks2.length dk, .slice bz ss2.length dz] 30)).alloc (.cells #[.bool false, .slice none 0 0, .slice none 0 0, .slice none 0 0] 30)).alloc (.cells #[.bool false, .slice none 0 0, .slice none 0 0, .slice none 0 0] 30)) w.heap.size #[.bool false, .slice ae es1.length ce, .slice ak ks1.length ck, .slice az ss1.length cz] 30 := (((Cl.new0 _ _ _).alloc _).alloc _).alloc _
  have K2 : Cl ((((w.alloc (.cells #[.bool false, .slice ae es1.length ce, .slice ak ks1.length ck, .slice az ss1.length cz] 30)).alloc (.cells #[.bool false, .slice be es2.length de, .slice bk ks2.length dk, .slice bz ss2.length dz] 30)).alloc (.cells #[.bool false, .slice none 0 0, .slice none 0 0, .slice none 0 0] 30)).alloc (.cells #[.bool false, .slice none 0 0, .slice none 0 0, .slice none 0 0] 30)) (w.heap.size + 1) #[.bool false, .slice be es2.length de, .slice bk ks2.length dk, .slice bz ss2.length dz] 30 := ((Cl.new1 _ _ _ _).alloc _).alloc _
  have K3 : Cl ((((w.alloc (.cells #[.bool false, .slice ae es1.length ce, .slice ak ks1.length ck, .slice az ss1.length cz] 30)).alloc (.cells #[.bool false, .slice be es2.length de, .slice bk ks2.length dk, .slice bz ss2.length dz] 30)).alloc (.cells #[.bool false, .slice none 0 0, .slice none 0 0, .slice none 0 0] 30)).alloc (.cells #[.bool false, .slice none 0 0, .slice none 0 0, .slice none 0 0] 30)) (w.heap.size + 1 + 1) #[.bool false, .slice none 0 0, .slice none 0 0, .slice none 0 0] 30 := (Cl.new2 _ _ _ _ _).alloc _
  have K4 : Cl ((((w.alloc (.cells #[.bool false, .slice ae es1.length ce, .slice ak ks1.length ck, .slice az ss1.length cz] 30)).alloc (.cells #[.bool false, .slice be es2.length de, .slice bk ks2.length dk, .slice bz ss2.length dz] 30)).alloc (.cells #[.bool false, .slice none 0 0, .slice none 0 0, .slice none 0 0] 30)).alloc (.cells #[.bool false, .slice none 0 0, .slice none 0 0, .slice none 0 0] 30)) (w.heap.size + 1 + 1 + 1) #[.bool false, .slice none 0 0, .slice none 0 0, .slice none 0 0] 30 := Cl.new3 _ _ _ _ _ _
  have sz4 : ((((w.alloc (.cells #[.bool false, .slice ae es1.length ce, .slice ak ks1.length ck, .slice az ss1.length cz] 30)).alloc (.cells #[.bool false, .slice be es2.length de, .slice bk ks2.length dk, .slice bz ss2.length dz] 30)).alloc (.cells #[.bool false, .slice none 0 0, .slice none 0 0, .slice none 0 0] 30)).alloc (.cells #[.bool false, .slice none 0 0, .slice none 0 0, .slice none 0 0] 30)).heap.size = w.heap.size + 1 + 1 + 1 + 1 := by simp
  have H1 : Aside (NdR w (.slice ae es1.length ce) (.slice ak ks1.length ck) (.slice az ss1.length cz) ⟨false, es1, ks1, ss1⟩) := h1
  have H2 : Aside (NdR w (.slice be es2.length de) (.slice bk ks2.length dk) (.slice bz ss2.length dz) ⟨false, es2, ks2, ss2⟩) := h2
  clear h1 h2
  go_enter Try.func25, Try.ntmps25
  go_upto_region 4 with fail
  generalize ((((w.alloc (.cells #[.bool false, .slice ae es1.length ce, .slice ak ks1.length ck, .slice az ss1.length cz] 30)).alloc (.cells #[.bool false, .slice be es2.length de, .slice bk ks2.length dk, .slice bz ss2.length dz] 30)).alloc (.cells #[.bool false, .slice none 0 0, .slice none 0 0, .slice none 0 0] 30)).alloc (.cells #[.bool false, .slice none 0 0, .slice none 0 0, .slice none 0 0] 30)) = W at *
  obtain ⟨p, hp⟩ : ∃ p, w.heap.size = p := ⟨_, rfl⟩
  have HP : Hid (w.heap.size = p) := hp
  rw [hp] at K1 K2 K3 K4 BW sz4 ⊢
  clear hp
  have OE0 : Aside (OwnP (p + 1 + 1 + 1 + 1) W (.slice none 0 0) []) := OwnP.empty _ _
  have OI0 : Aside (OwnI (p + 1 + 1 + 1 + 1) W (.slice none 0 0) []) := OwnI.empty _ _
  have OS0 : Aside (OwnS (p + 1 + 1 + 1 + 1) W (.slice none 0 0) []) := OwnS.empty _ _
  have B0 : Hid (Below (p + 1 + 1 + 1) W W) := Below.refl _ _
  have s0 : p + 1 + 1 + 1 + 1 ≤ W.heap.size := by omega
  clear sz4
  obtain ⟨c10, c11, c12, c13⟩ := (clTo K1 B0.out (by omega)).four
  obtain ⟨d10, d11, d12, d13⟩ := (clTo K2 B0.out (by omega)).four
  obtain ⟨f10, f11, f12, f13⟩ := K4.four
  have R1 : Aside (Row encP 2 W (.slice ae es1.length ce) es1) := (H1.out.to (BW.out.trans (B0.out.mono (by omega))) (by have := HP.out; omega)).e
  have Q1 : Aside (OwnP (p + 1 + 1 + 1 + 1) W (.slice none 0 0) ([])) := OE0.out
  have t1 : p + 1 + 1 + 1 + 1 ≤ W.heap.size := s0
  obtain ⟨l1, e1⟩ : ∃ x, [] ++ es1 = x := ⟨_, rfl⟩
  have g1 : l1.length ≤ 1000 := by rw [← e1, List.length_append]; simp only [List.length_nil]; omega
  have E1 : Hid ([] ++ es1 = l1) := e1
  clear e1
  go_wp2_with (at_builtin; refine appOE rfl _ _ rfl (p + 1 + 1 + 1 + 1) _ ([]) rfl Q1.out _ es1 rfl R1.out (by simp only [List.length_nil]; omega) t1 l1 E1.out ?_)
  intro a1 n1 m1 w1 P1 U1 O1
  have Y1 : Below (p + 1 + 1 + 1 + 1) W w1 := U1 _ (Below.refl _ _)
  have Z1 : Below (p + 1 + 1 + 1 + 1) W w1 := Y1
  have k1 := clTo K4 Z1 (Nat.lt_succ_self _)
  have y1 : p + 1 + 1 + 1 + 1 ≤ w1.heap.size := Nat.le_trans t1 Y1.size
  have N1E := P1
  have N1I : OwnI (p + 1 + 1 + 1 + 1) w1 (.slice none 0 0) ([]) := O1 _ _ _ _ _ _ (by decide) OI0.out
  have N1S : OwnS (p + 1 + 1 + 1 + 1) w1 (.slice none 0 0) ([]) := O1 _ _ _ _ _ _ (by decide) OS0.out
  obtain ⟨_, _, _, _⟩ := k1.thaw
  have K5 : Cl (w1.setCell ⟨p + 1 + 1 + 1, 1, none⟩ (.slice a1 n1 m1)) (p + 1 + 1 + 1) #[.bool false, .slice a1 n1 m1, .slice none 0 0, .slice none 0 0] 30 := k1.set 1 _
  have B1 : Hid (Below (p + 1 + 1 + 1) W (w1.setCell ⟨p + 1 + 1 + 1, 1, none⟩ (.slice a1 n1 m1))) := (B0.out.trans (Z1.mono (by omega))).setCell (p := ⟨p + 1 + 1 + 1, 1, none⟩) (Nat.le_refl _) _
  have s1 : p + 1 + 1 + 1 + 1 ≤ (w1.setCell ⟨p + 1 + 1 + 1, 1, none⟩ (.slice a1 n1 m1)).heap.size := by simp; omega
  have O1E : Aside (OwnP (p + 1 + 1 + 1 + 1) (w1.setCell ⟨p + 1 + 1 + 1, 1, none⟩ (.slice a1 n1 m1)) (.slice a1 n1 m1) (l1)) := ownsRow_setCell_below N1E (a := ⟨p + 1 + 1 + 1, 1, none⟩) (Nat.lt_succ_self _) _
  have O1I : Aside (OwnI (p + 1 + 1 + 1 + 1) (w1.setCell ⟨p + 1 + 1 + 1, 1, none⟩ (.slice a1 n1 m1)) (.slice none 0 0) ([])) := ownsRow_setCell_below N1I (a := ⟨p + 1 + 1 + 1, 1, none⟩) (Nat.lt_succ_self _) _
  have O1S : Aside (OwnS (p + 1 + 1 + 1 + 1) (w1.setCell ⟨p + 1 + 1 + 1, 1, none⟩ (.slice a1 n1 m1)) (.slice none 0 0) ([])) := ownsRow_setCell_below N1S (a := ⟨p + 1 + 1 + 1, 1, none⟩) (Nat.lt_succ_self _) _
  obtain ⟨h10, h11, h12, h13⟩ := k1.four
  clear P1 U1 O1 Y1 Z1 N1E N1I N1S R1 Q1 t1 c10 c11 c12 c13 d10 d11 d12 d13 f10 f11 f12 f13
  go_upto_region 5 with fail
  clear h10 h11 h12 h13 y1
  generalize (w1.setCell ⟨p + 1 + 1 + 1, 1, none⟩ (.slice a1 n1 m1)) = x1 at *
  clear k1 K4 OE0 OI0 OS0
  obtain ⟨c20, c21, c22, c23⟩ := (clTo K1 B1.out (by omega)).four
  obtain ⟨d20, d21, d22, d23⟩ := (clTo K2 B1.out (by omega)).four
  obtain ⟨f20, f21, f22, f23⟩ := K5.four
  have R2 : Aside (Row encP 2 x1 (.slice be es2.length de) es2) := (H2.out.to (BW.out.trans (B1.out.mono (by omega))) (by have := HP.out; omega)).e
  have Q2 : Aside (OwnP (p + 1 + 1 + 1 + 1) x1 (.slice a1 n1 m1) (l1)) := O1E.out
  have t2 : p + 1 + 1 + 1 + 1 ≤ x1.heap.size := s1
  obtain ⟨l2, e2⟩ : ∃ x, l1 ++ es2 = x := ⟨_, rfl⟩
  have g2 : l2.length ≤ 2000 := by rw [← e2, List.length_append]; omega
  have E2 : Hid (l1 ++ es2 = l2) := e2
  clear e2
  go_wp2_with (at_builtin; refine appOE rfl _ _ rfl (p + 1 + 1 + 1 + 1) _ (l1) rfl Q2.out _ es2 rfl R2.out (by omega) t2 l2 E2.out ?_)
  intro a2 n2 m2 w2 P2 U2 O2
  have Y2 : Below (p + 1 + 1 + 1 + 1) x1 w2 := U2 _ (Below.refl _ _)
  have Z2 : Below (p + 1 + 1 + 1 + 1) x1 w2 := Y2
  have k2 := clTo K5 Z2 (Nat.lt_succ_self _)
  have y2 : p + 1 + 1 + 1 + 1 ≤ w2.heap.size := Nat.le_trans t2 Y2.size
  have N2E := P2
  have N2I : OwnI (p + 1 + 1 + 1 + 1) w2 (.slice none 0 0) ([]) := O2 _ _ _ _ _ _ (by decide) O1I.out
  have N2S : OwnS (p + 1 + 1 + 1 + 1) w2 (.slice none 0 0) ([]) := O2 _ _ _ _ _ _ (by decide) O1S.out
  obtain ⟨_, _, _, _⟩ := k2.thaw
  have K6 : Cl (w2.setCell ⟨p + 1 + 1 + 1, 1, none⟩ (.slice a2 n2 m2)) (p + 1 + 1 + 1) #[.bool false, .slice a2 n2 m2, .slice none 0 0, .slice none 0 0] 30 := k2.set 1 _
  have B2 : Hid (Below (p + 1 + 1 + 1) W (w2.setCell ⟨p + 1 + 1 + 1, 1, none⟩ (.slice a2 n2 m2))) := (B1.out.trans (Z2.mono (by omega))).setCell (p := ⟨p + 1 + 1 + 1, 1, none⟩) (Nat.le_refl _) _
  have s2 : p + 1 + 1 + 1 + 1 ≤ (w2.setCell ⟨p + 1 + 1 + 1, 1, none⟩ (.slice a2 n2 m2)).heap.size := by simp; omega
  have O2E : Aside (OwnP (p + 1 + 1 + 1 + 1) (w2.setCell ⟨p + 1 + 1 + 1, 1, none⟩ (.slice a2 n2 m2)) (.slice a2 n2 m2) (l2)) := ownsRow_setCell_below N2E (a := ⟨p + 1 + 1 + 1, 1, none⟩) (Nat.lt_succ_self _) _
  have O2I : Aside (OwnI (p + 1 + 1 + 1 + 1) (w2.setCell ⟨p + 1 + 1 + 1, 1, none⟩ (.slice a2 n2 m2)) (.slice none 0 0) ([])) := ownsRow_setCell_below N2I (a := ⟨p + 1 + 1 + 1, 1, none⟩) (Nat.lt_succ_self _) _
  have O2S : Aside (OwnS (p + 1 + 1 + 1 + 1) (w2.setCell ⟨p + 1 + 1 + 1, 1, none⟩ (.slice a2 n2 m2)) (.slice none 0 0) ([])) := ownsRow_setCell_below N2S (a := ⟨p + 1 + 1 + 1, 1, none⟩) (Nat.lt_succ_self _) _
  obtain ⟨h20, h21, h22, h23⟩ := k2.four
  clear P2 U2 O2 Y2 Z2 N2E N2I N2S R2 Q2 t2 c20 c21 c22 c23 d20 d21 d22 d23 f20 f21 f22 f23
  go_upto_region 6 with fail
  clear h20 h21 h22 h23 y2
  generalize (w2.setCell ⟨p + 1 + 1 + 1, 1, none⟩ (.slice a2 n2 m2)) = x2 at *
  clear k2 K5 O1E O1I O1S
  clear B1 s1
  obtain ⟨c30, c31, c32, c33⟩ := (clTo K1 B2.out (by omega)).four
  obtain ⟨d30, d31, d32, d33⟩ := (clTo K2 B2.out (by omega)).four
  obtain ⟨f30, f31, f32, f33⟩ := K6.four
  have R3 : Aside (Row encI 1 x2 (.slice ak ks1.length ck) ks1) := (H1.out.to (BW.out.trans (B2.out.mono (by omega))) (by have := HP.out; omega)).k
  have Q3 : Aside (OwnI (p + 1 + 1 + 1 + 1) x2 (.slice none 0 0) ([])) := O2I.out
  have t3 : p + 1 + 1 + 1 + 1 ≤ x2.heap.size := s2
  obtain ⟨l3, e3⟩ : ∃ x, [] ++ ks1 = x := ⟨_, rfl⟩
  have g3 : l3.length ≤ 3000 := by rw [← e3, List.length_append]; simp only [List.length_nil]; omega
  have E3 : Hid ([] ++ ks1 = l3) := e3
  clear e3
  go_wp2_with (at_builtin; refine appOI rfl _ _ rfl (p + 1 + 1 + 1 + 1) _ ([]) rfl Q3.out _ ks1 rfl R3.out (by simp only [List.length_nil]; omega) t3 l3 E3.out ?_)
  intro a3 n3 m3 w3 P3 U3 O3
  have Y3 : Below (p + 1 + 1 + 1 + 1) x2 w3 := U3 _ (Below.refl _ _)
  have Z3 : Below (p + 1 + 1 + 1 + 1) x2 w3 := Y3
  have k3 := clTo K6 Z3 (Nat.lt_succ_self _)
  have y3 : p + 1 + 1 + 1 + 1 ≤ w3.heap.size := Nat.le_trans t3 Y3.size
  have N3E : OwnP (p + 1 + 1 + 1 + 1) w3 (.slice a2 n2 m2) (l2) := O3 _ _ _ _ _ _ (by decide) O2E.out
  have N3I := P3
  have N3S : OwnS (p + 1 + 1 + 1 + 1) w3 (.slice none 0 0) ([]) := O3 _ _ _ _ _ _ (by decide) O2S.out
  obtain ⟨_, _, _, _⟩ := k3.thaw
  have K7 : Cl (w3.setCell ⟨p + 1 + 1 + 1, 2, none⟩ (.slice a3 n3 m3)) (p + 1 + 1 + 1) #[.bool false, .slice a2 n2 m2, .slice a3 n3 m3, .slice none 0 0] 30 := k3.set 2 _
  have B3 : Hid (Below (p + 1 + 1 + 1) W (w3.setCell ⟨p + 1 + 1 + 1, 2, none⟩ (.slice a3 n3 m3))) := (B2.out.trans (Z3.mono (by omega))).setCell (p := ⟨p + 1 + 1 + 1, 2, none⟩) (Nat.le_refl _) _
  have s3 : p + 1 + 1 + 1 + 1 ≤ (w3.setCell ⟨p + 1 + 1 + 1, 2, none⟩ (.slice a3 n3 m3)).heap.size := by simp; omega
  have O3E : Aside (OwnP (p + 1 + 1 + 1 + 1) (w3.setCell ⟨p + 1 + 1 + 1, 2, none⟩ (.slice a3 n3 m3)) (.slice a2 n2 m2) (l2)) := ownsRow_setCell_below N3E (a := ⟨p + 1 + 1 + 1, 2, none⟩) (Nat.lt_succ_self _) _
  have O3I : Aside (OwnI (p + 1 + 1 + 1 + 1) (w3.setCell ⟨p + 1 + 1 + 1, 2, none⟩ (.slice a3 n3 m3)) (.slice a3 n3 m3) (l3)) := ownsRow_setCell_below N3I (a := ⟨p + 1 + 1 + 1, 2, none⟩) (Nat.lt_succ_self _) _
  have O3S : Aside (OwnS (p + 1 + 1 + 1 + 1) (w3.setCell ⟨p + 1 + 1 + 1, 2, none⟩ (.slice a3 n3 m3)) (.slice none 0 0) ([])) := ownsRow_setCell_below N3S (a := ⟨p + 1 + 1 + 1, 2, none⟩) (Nat.lt_succ_self _) _
  obtain ⟨h30, h31, h32, h33⟩ := k3.four
  clear P3 U3 O3 Y3 Z3 N3E N3I N3S R3 Q3 t3 c30 c31 c32 c33 d30 d31 d32 d33 f30 f31 f32 f33
  go_upto_region 7 with fail
  clear h30 h31 h32 h33 y3
  generalize (w3.setCell ⟨p + 1 + 1 + 1, 2, none⟩ (.slice a3 n3 m3)) = x3 at *
  clear k3 K6 O2E O2I O2S
  clear B2 s2
  obtain ⟨c40, c41, c42, c43⟩ := (clTo K1 B3.out (by omega)).four
  obtain ⟨d40, d41, d42, d43⟩ := (clTo K2 B3.out (by omega)).four
  obtain ⟨f40, f41, f42, f43⟩ := K7.four
  have R4 : Aside (Row encI 1 x3 (.slice bk ks2.length dk) ks2) := (H2.out.to (BW.out.trans (B3.out.mono (by omega))) (by have := HP.out; omega)).k
  have Q4 : Aside (OwnI (p + 1 + 1 + 1 + 1) x3 (.slice a3 n3 m3) (l3)) := O3I.out
  have t4 : p + 1 + 1 + 1 + 1 ≤ x3.heap.size := s3
  obtain ⟨l4, e4⟩ : ∃ x, l3 ++ ks2 = x := ⟨_, rfl⟩
  have g4 : l4.length ≤ 4000 := by rw [← e4, List.length_append]; omega
  have E4 : Hid (l3 ++ ks2 = l4) := e4
  clear e4
  go_wp2_with (at_builtin; refine appOI rfl _ _ rfl (p + 1 + 1 + 1 + 1) _ (l3) rfl Q4.out _ ks2 rfl R4.out (by omega) t4 l4 E4.out ?_)
  intro a4 n4 m4 w4 P4 U4 O4
  have Y4 : Below (p + 1 + 1 + 1 + 1) x3 w4 := U4 _ (Below.refl _ _)
  have Z4 : Below (p + 1 + 1 + 1 + 1) x3 w4 := Y4
  have k4 := clTo K7 Z4 (Nat.lt_succ_self _)
  have y4 : p + 1 + 1 + 1 + 1 ≤ w4.heap.size := Nat.le_trans t4 Y4.size
  have N4E : OwnP (p + 1 + 1 + 1 + 1) w4 (.slice a2 n2 m2) (l2) := O4 _ _ _ _ _ _ (by decide) O3E.out
  have N4I := P4
  have N4S : OwnS (p + 1 + 1 + 1 + 1) w4 (.slice none 0 0) ([]) := O4 _ _ _ _ _ _ (by decide) O3S.out
  obtain ⟨_, _, _, _⟩ := k4.thaw
  have K8 : Cl (w4.setCell ⟨p + 1 + 1 + 1, 2, none⟩ (.slice a4 n4 m4)) (p + 1 + 1 + 1) #[.bool false, .slice a2 n2 m2, .slice a4 n4 m4, .slice none 0 0] 30 := k4.set 2 _
  have B4 : Hid (Below (p + 1 + 1 + 1) W (w4.setCell ⟨p + 1 + 1 + 1, 2, none⟩ (.slice a4 n4 m4))) := (B3.out.trans (Z4.mono (by omega))).setCell (p := ⟨p + 1 + 1 + 1, 2, none⟩) (Nat.le_refl _) _
  have s4 : p + 1 + 1 + 1 + 1 ≤ (w4.setCell ⟨p + 1 + 1 + 1, 2, none⟩ (.slice a4 n4 m4)).heap.size := by simp; omega
  have O4E : Aside (OwnP (p + 1 + 1 + 1 + 1) (w4.setCell ⟨p + 1 + 1 + 1, 2, none⟩ (.slice a4 n4 m4)) (.slice a2 n2 m2) (l2)) := ownsRow_setCell_below N4E (a := ⟨p + 1 + 1 + 1, 2, none⟩) (Nat.lt_succ_self _) _
  have O4I : Aside (OwnI (p + 1 + 1 + 1 + 1) (w4.setCell ⟨p + 1 + 1 + 1, 2, none⟩ (.slice a4 n4 m4)) (.slice a4 n4 m4) (l4)) := ownsRow_setCell_below N4I (a := ⟨p + 1 + 1 + 1, 2, none⟩) (Nat.lt_succ_self _) _
  have O4S : Aside (OwnS (p + 1 + 1 + 1 + 1) (w4.setCell ⟨p + 1 + 1 + 1, 2, none⟩ (.slice a4 n4 m4)) (.slice none 0 0) ([])) := ownsRow_setCell_below N4S (a := ⟨p + 1 + 1 + 1, 2, none⟩) (Nat.lt_succ_self _) _
  obtain ⟨h40, h41, h42, h43⟩ := k4.four
  clear P4 U4 O4 Y4 Z4 N4E N4I N4S R4 Q4 t4 c40 c41 c42 c43 d40 d41 d42 d43 f40 f41 f42 f43
  go_upto_region 8 with fail
  clear h40 h41 h42 h43 y4
  generalize (w4.setCell ⟨p + 1 + 1 + 1, 2, none⟩ (.slice a4 n4 m4)) = x4 at *
  clear k4 K7 O3E O3I O3S
  clear B3 s3
  obtain ⟨c50, c51, c52, c53⟩ := (clTo K1 B4.out (by omega)).four
  obtain ⟨d50, d51, d52, d53⟩ := (clTo K2 B4.out (by omega)).four
  obtain ⟨f50, f51, f52, f53⟩ := K8.four
  have R5 : Aside (Row encS 1 x4 (.slice az ss1.length cz) ss1) := (H1.out.to (BW.out.trans (B4.out.mono (by omega))) (by have := HP.out; omega)).s
  have Q5 : Aside (OwnS (p + 1 + 1 + 1 + 1) x4 (.slice none 0 0) ([])) := O4S.out
  have t5 : p + 1 + 1 + 1 + 1 ≤ x4.heap.size := s4
  obtain ⟨l5, e5⟩ : ∃ x, [] ++ ss1 = x := ⟨_, rfl⟩
  have g5 : l5.length ≤ 5000 := by rw [← e5, List.length_append]; simp only [List.length_nil]; omega
  have E5 : Hid ([] ++ ss1 = l5) := e5
  clear e5
  go_wp2_with (at_builtin; refine appOS rfl _ _ rfl (p + 1 + 1 + 1 + 1) _ ([]) rfl Q5.out _ ss1 rfl R5.out (by simp only [List.length_nil]; omega) t5 l5 E5.out ?_)
  intro a5 n5 m5 w5 P5 U5 O5
  have Y5 : Below (p + 1 + 1 + 1 + 1) x4 w5 := U5 _ (Below.refl _ _)
  have Z5 : Below (p + 1 + 1 + 1 + 1) x4 w5 := Y5
  have k5 := clTo K8 Z5 (Nat.lt_succ_self _)
  have y5 : p + 1 + 1 + 1 + 1 ≤ w5.heap.size := Nat.le_trans t5 Y5.size
  have N5E : OwnP (p + 1 + 1 + 1 + 1) w5 (.slice a2 n2 m2) (l2) := O5 _ _ _ _ _ _ (by decide) O4E.out
  have N5I : OwnI (p + 1 + 1 + 1 + 1) w5 (.slice a4 n4 m4) (l4) := O5 _ _ _ _ _ _ (by decide) O4I.out
  have N5S := P5
  obtain ⟨_, _, _, _⟩ := k5.thaw
  have K9 : Cl (w5.setCell ⟨p + 1 + 1 + 1, 3, none⟩ (.slice a5 n5 m5)) (p + 1 + 1 + 1) #[.bool false, .slice a2 n2 m2, .slice a4 n4 m4, .slice a5 n5 m5] 30 := k5.set 3 _
  have B5 : Hid (Below (p + 1 + 1 + 1) W (w5.setCell ⟨p + 1 + 1 + 1, 3, none⟩ (.slice a5 n5 m5))) := (B4.out.trans (Z5.mono (by omega))).setCell (p := ⟨p + 1 + 1 + 1, 3, none⟩) (Nat.le_refl _) _
  have s5 : p + 1 + 1 + 1 + 1 ≤ (w5.setCell ⟨p + 1 + 1 + 1, 3, none⟩ (.slice a5 n5 m5)).heap.size := by simp; omega
  have O5E : Aside (OwnP (p + 1 + 1 + 1 + 1) (w5.setCell ⟨p + 1 + 1 + 1, 3, none⟩ (.slice a5 n5 m5)) (.slice a2 n2 m2) (l2)) := ownsRow_setCell_below N5E (a := ⟨p + 1 + 1 + 1, 3, none⟩) (Nat.lt_succ_self _) _
  have O5I : Aside (OwnI (p + 1 + 1 + 1 + 1) (w5.setCell ⟨p + 1 + 1 + 1, 3, none⟩ (.slice a5 n5 m5)) (.slice a4 n4 m4) (l4)) := ownsRow_setCell_below N5I (a := ⟨p + 1 + 1 + 1, 3, none⟩) (Nat.lt_succ_self _) _
  have O5S : Aside (OwnS (p + 1 + 1 + 1 + 1) (w5.setCell ⟨p + 1 + 1 + 1, 3, none⟩ (.slice a5 n5 m5)) (.slice a5 n5 m5) (l5)) := ownsRow_setCell_below N5S (a := ⟨p + 1 + 1 + 1, 3, none⟩) (Nat.lt_succ_self _) _
  obtain ⟨h50, h51, h52, h53⟩ := k5.four
  clear P5 U5 O5 Y5 Z5 N5E N5I N5S R5 Q5 t5 c50 c51 c52 c53 d50 d51 d52 d53 f50 f51 f52 f53
  go_upto_region 9 with fail
  clear h50 h51 h52 h53 y5
  generalize (w5.setCell ⟨p + 1 + 1 + 1, 3, none⟩ (.slice a5 n5 m5)) = x5 at *
  clear k5 K8 O4E O4I O4S
  clear B4 s4
  obtain ⟨i0, _, _, _⟩ := (clTo K1 B5.out (by omega)).four
  go_upto_region 10 with fail
  clear i0
  obtain ⟨c60, c61, c62, c63⟩ := (clTo K1 B5.out (by omega)).four
  obtain ⟨d60, d61, d62, d63⟩ := (clTo K2 B5.out (by omega)).four
  obtain ⟨f60, f61, f62, f63⟩ := K9.four
  have A6 : Below x5.heap.size x5 (x5.alloc (.cells #[.string key] 9)) := belAlloc _ (Below.refl _ _)
  have R6 : Aside (Row encS 1 (x5.alloc (.cells #[.string key] 9)) (.slice (some ⟨x5.heap.size, 0, none⟩) 1 1) [key]) := (Cl.new0 _ _ _).rowS
  have Q6 : Aside (OwnS (p + 1 + 1 + 1 + 1) (x5.alloc (.cells #[.string key] 9)) (.slice a5 n5 m5) (l5)) := ownsRow_below O5S.out A6
  have t6 : p + 1 + 1 + 1 + 1 ≤ (x5.alloc (.cells #[.string key] 9)).heap.size := by simp; omega
  obtain ⟨l6, e6⟩ : ∃ x, l5 ++ [key] = x := ⟨_, rfl⟩
  have g6 : l6.length ≤ 6000 := by rw [← e6, List.length_append]; simp only [List.length_singleton]; omega
  have E6 : Hid (l5 ++ [key] = l6) := e6
  clear e6
  go_wp2_with (at_builtin; refine appOS rfl _ _ rfl (p + 1 + 1 + 1 + 1) _ (l5) rfl Q6.out _ [key] rfl R6.out (by simp only [List.length_singleton]; omega) t6 l6 E6.out ?_)
  intro a6 n6 m6 w6 P6 U6 O6
  have Y6 : Below (p + 1 + 1 + 1 + 1) (x5.alloc (.cells #[.string key] 9)) w6 := U6 _ (Below.refl _ _)
  have Z6 : Below (p + 1 + 1 + 1 + 1) x5 w6 := A6.mono s5 |>.trans Y6
  have k6 := clTo K9 Z6 (Nat.lt_succ_self _)
  have y6 : p + 1 + 1 + 1 + 1 ≤ w6.heap.size := Nat.le_trans t6 Y6.size
  have N6E : OwnP (p + 1 + 1 + 1 + 1) w6 (.slice a2 n2 m2) (l2) := O6 _ _ _ _ _ _ (by decide) (ownsRow_below O5E.out A6)
  have N6I : OwnI (p + 1 + 1 + 1 + 1) w6 (.slice a4 n4 m4) (l4) := O6 _ _ _ _ _ _ (by decide) (ownsRow_below O5I.out A6)
  have N6S := P6
  obtain ⟨_, _, _, _⟩ := k6.thaw
  have K10 : Cl (w6.setCell ⟨p + 1 + 1 + 1, 3, none⟩ (.slice a6 n6 m6)) (p + 1 + 1 + 1) #[.bool false, .slice a2 n2 m2, .slice a4 n4 m4, .slice a6 n6 m6] 30 := k6.set 3 _
  have B6 : Hid (Below (p + 1 + 1 + 1) W (w6.setCell ⟨p + 1 + 1 + 1, 3, none⟩ (.slice a6 n6 m6))) := (B5.out.trans (Z6.mono (by omega))).setCell (p := ⟨p + 1 + 1 + 1, 3, none⟩) (Nat.le_refl _) _
  have s6 : p + 1 + 1 + 1 + 1 ≤ (w6.setCell ⟨p + 1 + 1 + 1, 3, none⟩ (.slice a6 n6 m6)).heap.size := by simp; omega
  have O6E : Aside (OwnP (p + 1 + 1 + 1 + 1) (w6.setCell ⟨p + 1 + 1 + 1, 3, none⟩ (.slice a6 n6 m6)) (.slice a2 n2 m2) (l2)) := ownsRow_setCell_below N6E (a := ⟨p + 1 + 1 + 1, 3, none⟩) (Nat.lt_succ_self _) _
  have O6I : Aside (OwnI (p + 1 + 1 + 1 + 1) (w6.setCell ⟨p + 1 + 1 + 1, 3, none⟩ (.slice a6 n6 m6)) (.slice a4 n4 m4) (l4)) := ownsRow_setCell_below N6I (a := ⟨p + 1 + 1 + 1, 3, none⟩) (Nat.lt_succ_self _) _
  have O6S : Aside (OwnS (p + 1 + 1 + 1 + 1) (w6.setCell ⟨p + 1 + 1 + 1, 3, none⟩ (.slice a6 n6 m6)) (.slice a6 n6 m6) (l6)) := ownsRow_setCell_below N6S (a := ⟨p + 1 + 1 + 1, 3, none⟩) (Nat.lt_succ_self _) _
  obtain ⟨h60, h61, h62, h63⟩ := k6.four
  clear P6 U6 O6 Y6 Z6 N6E N6I N6S R6 Q6 t6 A6 c60 c61 c62 c63 d60 d61 d62 d63 f60 f61 f62 f63
  go_upto_region 11 with fail
  clear h60 h61 h62 h63 y6
  generalize (w6.setCell ⟨p + 1 + 1 + 1, 3, none⟩ (.slice a6 n6 m6)) = x6 at *
  clear k6 K9 O5E O5I O5S
  clear B5 s5
  obtain ⟨c70, c71, c72, c73⟩ := (clTo K1 B6.out (by omega)).four
  obtain ⟨d70, d71, d72, d73⟩ := (clTo K2 B6.out (by omega)).four
  obtain ⟨f70, f71, f72, f73⟩ := K10.four
  have R7 : Aside (Row encS 1 x6 (.slice bz ss2.length dz) ss2) := (H2.out.to (BW.out.trans (B6.out.mono (by omega))) (by have := HP.out; omega)).s
  have Q7 : Aside (OwnS (p + 1 + 1 + 1 + 1) x6 (.slice a6 n6 m6) (l6)) := O6S.out
  have t7 : p + 1 + 1 + 1 + 1 ≤ x6.heap.size := s6
  obtain ⟨l7, e7⟩ : ∃ x, l6 ++ ss2 = x := ⟨_, rfl⟩
  have g7 : l7.length ≤ 7000 := by rw [← e7, List.length_append]; omega
  have E7 : Hid (l6 ++ ss2 = l7) := e7
  clear e7
  go_wp2_with (at_builtin; refine appOS rfl _ _ rfl (p + 1 + 1 + 1 + 1) _ (l6) rfl Q7.out _ ss2 rfl R7.out (by omega) t7 l7 E7.out ?_)
  intro a7 n7 m7 w7 P7 U7 O7
  have Y7 : Below (p + 1 + 1 + 1 + 1) x6 w7 := U7 _ (Below.refl _ _)
  have Z7 : Below (p + 1 + 1 + 1 + 1) x6 w7 := Y7
  have k7 := clTo K10 Z7 (Nat.lt_succ_self _)
  have y7 : p + 1 + 1 + 1 + 1 ≤ w7.heap.size := Nat.le_trans t7 Y7.size
  have N7E : OwnP (p + 1 + 1 + 1 + 1) w7 (.slice a2 n2 m2) (l2) := O7 _ _ _ _ _ _ (by decide) O6E.out
  have N7I : OwnI (p + 1 + 1 + 1 + 1) w7 (.slice a4 n4 m4) (l4) := O7 _ _ _ _ _ _ (by decide) O6I.out
  have N7S := P7
  obtain ⟨_, _, _, _⟩ := k7.thaw
  have K11 : Cl (w7.setCell ⟨p + 1 + 1 + 1, 3, none⟩ (.slice a7 n7 m7)) (p + 1 + 1 + 1) #[.bool false, .slice a2 n2 m2, .slice a4 n4 m4, .slice a7 n7 m7] 30 := k7.set 3 _
  have B7 : Hid (Below (p + 1 + 1 + 1) W (w7.setCell ⟨p + 1 + 1 + 1, 3, none⟩ (.slice a7 n7 m7))) := (B6.out.trans (Z7.mono (by omega))).setCell (p := ⟨p + 1 + 1 + 1, 3, none⟩) (Nat.le_refl _) _
  have s7 : p + 1 + 1 + 1 + 1 ≤ (w7.setCell ⟨p + 1 + 1 + 1, 3, none⟩ (.slice a7 n7 m7)).heap.size := by simp; omega
  have O7E : Aside (OwnP (p + 1 + 1 + 1 + 1) (w7.setCell ⟨p + 1 + 1 + 1, 3, none⟩ (.slice a7 n7 m7)) (.slice a2 n2 m2) (l2)) := ownsRow_setCell_below N7E (a := ⟨p + 1 + 1 + 1, 3, none⟩) (Nat.lt_succ_self _) _
  have O7I : Aside (OwnI (p + 1 + 1 + 1 + 1) (w7.setCell ⟨p + 1 + 1 + 1, 3, none⟩ (.slice a7 n7 m7)) (.slice a4 n4 m4) (l4)) := ownsRow_setCell_below N7I (a := ⟨p + 1 + 1 + 1, 3, none⟩) (Nat.lt_succ_self _) _
  have O7S : Aside (OwnS (p + 1 + 1 + 1 + 1) (w7.setCell ⟨p + 1 + 1 + 1, 3, none⟩ (.slice a7 n7 m7)) (.slice a7 n7 m7) (l7)) := ownsRow_setCell_below N7S (a := ⟨p + 1 + 1 + 1, 3, none⟩) (Nat.lt_succ_self _) _
  obtain ⟨h70, h71, h72, h73⟩ := k7.four
  clear P7 U7 O7 Y7 Z7 N7E N7I N7S R7 Q7 t7 c70 c71 c72 c73 d70 d71 d72 d73 f70 f71 f72 f73
  go_upto_region 12 with fail
  clear h70 h71 h72 h73 y7
  generalize (w7.setCell ⟨p + 1 + 1 + 1, 3, none⟩ (.slice a7 n7 m7)) = x7 at *
  clear k7 K10 O6E O6I O6S
  clear B6 s6
  have q1 : es1 ++ es2 = l2 := by rw [← E2.out, ← E1.out]; simp
  have q2 : ks1 ++ ks2 = l4 := by rw [← E4.out, ← E3.out]; simp
  have q3 : ss1 ++ [key] ++ ss2 = l7 := by rw [← E7.out, ← E6.out, ← E5.out]; simp
  have k3 := clTo K3 B7.out (by omega)
  obtain ⟨f0, f1, f2, f3⟩ := k3.four
  obtain ⟨g0, g1, g2, g3⟩ := k3.thaw
  obtain ⟨h0, h1, h2, h3⟩ := K11.four
  have X1 : Cl (((((x7.setCell ⟨p + 1 + 1, 0, none⟩ (.bool false)).setCell ⟨p + 1 + 1, 1, none⟩ (.slice a2 n2 m2)).setCell ⟨p + 1 + 1, 2, none⟩ (.slice a4 n4 m4)).setCell ⟨p + 1 + 1, 3, none⟩ (.slice a7 n7 m7))) (p + 1 + 1) #[.bool false, .slice a2 n2 m2, .slice a4 n4 m4, .slice a7 n7 m7] 30 := k3.set4 _ _ _ _
  have BX : Hid (Below p w (((((x7.setCell ⟨p + 1 + 1, 0, none⟩ (.bool false)).setCell ⟨p + 1 + 1, 1, none⟩ (.slice a2 n2 m2)).setCell ⟨p + 1 + 1, 2, none⟩ (.slice a4 n4 m4)).setCell ⟨p + 1 + 1, 3, none⟩ (.slice a7 n7 m7)))) := belSet4 (BW.out.trans (B7.out.mono (by omega))) (by omega)
  have NX : Hid (NdO p (((((x7.setCell ⟨p + 1 + 1, 0, none⟩ (.bool false)).setCell ⟨p + 1 + 1, 1, none⟩ (.slice a2 n2 m2)).setCell ⟨p + 1 + 1, 2, none⟩ (.slice a4 n4 m4)).setCell ⟨p + 1 + 1, 3, none⟩ (.slice a7 n7 m7))) (.slice a2 n2 m2) (.slice a4 n4 m4) (.slice a7 n7 m7) ⟨false, l2, l4, l7⟩) := NdO.mono (base := p + 1 + 1 + 1 + 1) ⟨ownSet4 O7E.out (by omega), ownSet4 O7I.out (by omega), ownSet4 O7S.out (by omega)⟩ (by omega)
  have QQ : Hid ((⟨false, es1 ++ es2, ks1 ++ ks2, ss1 ++ [key] ++ ss2⟩ : Nd) = ⟨false, l2, l4, l7⟩) := by show _ = _; rw [q1, q2, q3]
  clear q1 q2 q3 K11 K1 K2 K3 k3
  go_wp2
  (try simp only [Exit.inBlock, Exit.then])
  clear f0 f1 f2 f3 g0 g1 g2 g3 h0 h1 h2 h3
  rw [QQ.out]
  generalize (((((x7.setCell ⟨p + 1 + 1, 0, none⟩ (.bool false)).setCell ⟨p + 1 + 1, 1, none⟩ (.slice a2 n2 m2)).setCell ⟨p + 1 + 1, 2, none⟩ (.slice a4 n4 m4)).setCell ⟨p + 1 + 1, 3, none⟩ (.slice a7 n7 m7))) = X at *
  obtain ⟨k0, k1, k2, k3⟩ := X1.four
  refine bodyPost_ret (v := .agg #[.bool false, .slice a2 n2 m2, .slice a4 n4 m4, .slice a7 n7 m7]) ?_ rfl ⟨_, _, _, rfl, by rw [HP.out]; exact NX.out, by rw [HP.out]; exact BX.out⟩
  rw [results_cell rfl]
  go_simp

theorem rnjoin_same (key : ByteArray) (a b : Nd) (ve1 vk1 vs1 ve2 vk2 vs2 : Value) (w : World) (h1 : NdR w ve1 vk1 vs1 a) (h2 : NdR w ve2 vk2 vs2 b) (hm1 : SmL a) (hm2 : SmL b) (hl : a.leaf = b.leaf) :
    Calls Try.prog 25 #[.agg #[.bool a.leaf, ve1, vk1, vs1], .string key, .agg #[.bool b.leaf, ve2, vk2, vs2]] w (GvN w (joN a key b)) := by
  rw [joN_same hl]
  obtain ⟨l1, es1, ks1, ss1⟩ := a
  obtain ⟨l2, es2, ks2, ss2⟩ := b
  simp only at hl
  subst hl
  cases l1
  · exact rjoin_inner key es1 es2 ks1 ks2 ss1 ss2 _ _ _ _ _ _ w h1 h2 hm1 hm2
  · exact rjoin_leaf key es1 es2 ks1 ks2 ss1 ss2 _ _ _ _ _ _ w h1 h2 hm1 hm2
theorem GvN.r {w : World} {n : Nd} {e : Ending} {w' : World} (h : GvN w n e w') : GvR w n e w' := by
  obtain ⟨a, b, c, h1, h2, h3⟩ := h
  exact ⟨a, b, c, h1, h2.r, h3⟩
theorem rnjoin_any (key : ByteArray) (a b : Nd) (ve1 vk1 vs1 ve2 vk2 vs2 : Value) (w : World) (h1 : NdR w ve1 vk1 vs1 a) (h2 : NdR w ve2 vk2 vs2 b) (hm1 : SmL a) (hm2 : SmL b) :
    Calls Try.prog 25 #[.agg #[.bool a.leaf, ve1, vk1, vs1], .string key, .agg #[.bool b.leaf, ve2, vk2, vs2]] w (GvR w (joN a key b)) := by
  by_cases hl : a.leaf = b.leaf
  · exact Calls.mono (rnjoin_same key a b _ _ _ _ _ _ w h1 h2 hm1 hm2 hl) fun _ _ h => h.r
  · rw [joN_un hl]
    cases ha : a.leaf with
    | true =>
      have hb : b.leaf = false := by rw [ha] at hl; cases h : b.leaf <;> simp_all
      have := rjoin_un1 key a b ve1 vk1 vs1 ve2 vk2 vs2 w h1 ha hb
      rw [ha, hb] at this
      rw [hb]
      exact this
    | false =>
      have hb : b.leaf = true := by rw [ha] at hl; cases h : b.leaf <;> simp_all
      have := rjoin_un2 key a b ve1 vk1 vs1 ve2 vk2 vs2 w h1 ha hb
      rw [ha, hb] at this
      rw [hb]
      exact this

end Go.Proofs.Ytmamnlphhiaeoaa

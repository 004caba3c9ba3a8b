/-
  The walk of the document's Decode.
-/
import Derived.Test.YtmamnlphhiaeoaaNdDecK
import Derived.Test.YtmamnlphhiaeoaaNdRef
import Derived.Test.YtmamnlphhiaeoaaPgRefInt
import Derived.Test.YtmamnlphhiaeoaaOrd
import Derived.Deep.LoopGhost
namespace Go.Proofs.Ytmamnlphhiaeoaa
open Go.Shelf Go.RowKit Go.Lib Go.Sort

/-- What the document's Decode answers. -/
def GvE (w : World) (kind : Int) (S : List UInt8) (e : Ending) (w' : World) : Prop :=
  ∃ ve vk vs, e = .returned (.tuple #[.agg #[.bool (deR kind S).leaf, ve, vk, vs], .bool (deO kind S)]) ∧ NdW w.heap.size w' ve vk vs (deR kind S) ∧ Below w.heap.size w w'
theorem refInt_b (x : ByteArray) (w : World) (hx : x.size ≤ 4) (v : Int) (hv : ((beNat x.data.toList : Nat) : Int) = v) : Calls Try.prog 43 #[.string x] w fun r w' => r = .returned (.int .i64 v) ∧ Below w.heap.size w w' := by
  refine Calls.mono (refInt x w hx) ?_
  rintro e w' ⟨rfl, rfl⟩
  exact ⟨by rw [hv], Below.refl _ _⟩
theorem DkI.begin {S : ByteArray} (h : 4 ≤ S.size) : DkI S (S.extract 4 S.size) ((beNat (S.extract 0 4).data.toList : Nat) : Int) 0 [] := by
  left
  refine ⟨rfl, ?_⟩
  have e := Lib.size_eq S
  have e1 : (S.extract 0 4).data.toList = S.data.toList.take 4 := by rw [Lib.extract_data]; simp
  have e2 : (S.extract 4 S.size).data.toList = S.data.toList.drop 4 := by rw [Lib.extract_data, e, List.take_of_length_le (by simp)]
  rw [e1, e2]
  have := diN_long (l := S.data.toList.take 4) (r := S.data.toList.drop 4) (by rw [List.length_take]; omega)
  rwa [List.take_append_drop] at this
theorem pk_m1 (out : List Pk) (x : Pk) : (out ++ [x]).map (·.1) = out.map (·.1) ++ [x.1] := by simp
theorem pk_m2 (k0 : Int) (out : List Pk) (x : Pk) : k0 :: (out ++ [x]).map (·.2) = (k0 :: out.map (·.2)) ++ [x.2] := by simp

set_option maxHeartbeats 8000000 in
set_option maxRecDepth 100000 in
theorem rdec_long (kind : Int) (S : ByteArray) (w : World) (hS0 : S.size ≤ maxLen) (hS : 240 < S.size) : Calls Try.prog 19 #[.int .u8 kind, .string S] w (GvE w kind S.data.toList) := by
  unfold maxLen at hS0
  have BW : Below w.heap.size w (w.alloc (.cells #[.bool false, .slice none 0 0, .slice none 0 0, .slice none 0 0] 30)) := belAlloc _ (Below.refl _ _)
  have K1 : Cl (w.alloc (.cells #[.bool false, .slice none 0 0, .slice none 0 0, .slice none 0 0] 30)) w.heap.size #[.bool false, .slice none 0 0, .slice none 0 0, .slice none 0 0] 30 := Cl.new0 _ _ _
  have sz : w.heap.size < (w.alloc (.cells #[.bool false, .slice none 0 0, .slice none 0 0, .slice none 0 0] 30)).heap.size := by simp
  go_enter Try.func19, Try.ntmps19
  go_upto_region 1 with fail
  generalize (w.alloc (.cells #[.bool false, .slice none 0 0, .slice none 0 0, .slice none 0 0] 30)) = W at *
  obtain ⟨p, hp⟩ : ∃ p, w.heap.size = p := ⟨_, rfl⟩
  have HP : Hid (w.heap.size = p) := hp
  rw [hp] at K1 BW sz ⊢
  clear hp
  have DN := deN_long (k := kind) (s := S.data.toList) (by rw [← Lib.size_eq]; exact hS)
  have hSz : (240 : Int) < (S.size : Int) := by omega
  obtain ⟨r1, r2⟩ := deR_none DN
  have R1 : Hid _ := r1
  have R2 : Hid _ := r2
  clear r1 r2 DN
  have kz := K1
  obtain ⟨c0, c1, c2, c3⟩ := kz.four
  obtain ⟨g0, g1, g2, g3⟩ := kz.thaw
  have KX : Cl ((((W.setCell ⟨p, 0, none⟩ (.bool false)).setCell ⟨p, 1, none⟩ (.slice none 0 0)).setCell ⟨p, 2, none⟩ (.slice none 0 0)).setCell ⟨p, 3, none⟩ (.slice none 0 0)) p #[.bool false, .slice none 0 0, .slice none 0 0, .slice none 0 0] 30 := kz.set4 _ _ _ _
  have BX : Hid (Below p w ((((W.setCell ⟨p, 0, none⟩ (.bool false)).setCell ⟨p, 1, none⟩ (.slice none 0 0)).setCell ⟨p, 2, none⟩ (.slice none 0 0)).setCell ⟨p, 3, none⟩ (.slice none 0 0))) := belSet4 BW (Nat.le_refl _)
  clear kz K1 BW
  go_wp2
  (try simp only [Exit.inBlock, Exit.then])
  clear c0 c1 c2 c3 g0 g1 g2 g3
  generalize ((((W.setCell ⟨p, 0, none⟩ (.bool false)).setCell ⟨p, 1, none⟩ (.slice none 0 0)).setCell ⟨p, 2, none⟩ (.slice none 0 0)).setCell ⟨p, 3, none⟩ (.slice none 0 0)) = X at *
  obtain ⟨k0, k1, k2, k3⟩ := KX.four
  refine bodyPost_ret (v := .tuple #[.agg #[.bool false, .slice none 0 0, .slice none 0 0, .slice none 0 0], .bool false]) ?_ rfl ⟨_, _, _, by rw [R1.out, R2.out]; rfl, by rw [R1.out]; exact NdW.zero _ _, by rw [HP.out]; exact BX.out⟩
  rw [results_ct rfl]
  go_simp

set_option maxHeartbeats 8000000 in
set_option maxRecDepth 100000 in
theorem rdec_other (kind : Int) (S : ByteArray) (w : World) (hS0 : S.size ≤ maxLen) (hS : S.size ≤ 240) (h1 : kind ≠ 1) (h2 : kind ≠ 2) : Calls Try.prog 19 #[.int .u8 kind, .string S] w (GvE w kind S.data.toList) := by
  unfold maxLen at hS0
  have BW : Below w.heap.size w (w.alloc (.cells #[.bool false, .slice none 0 0, .slice none 0 0, .slice none 0 0] 30)) := belAlloc _ (Below.refl _ _)
  have K1 : Cl (w.alloc (.cells #[.bool false, .slice none 0 0, .slice none 0 0, .slice none 0 0] 30)) w.heap.size #[.bool false, .slice none 0 0, .slice none 0 0, .slice none 0 0] 30 := Cl.new0 _ _ _
  have sz : w.heap.size < (w.alloc (.cells #[.bool false, .slice none 0 0, .slice none 0 0, .slice none 0 0] 30)).heap.size := by simp
  go_enter Try.func19, Try.ntmps19
  go_upto_region 1 with fail
  generalize (w.alloc (.cells #[.bool false, .slice none 0 0, .slice none 0 0, .slice none 0 0] 30)) = W at *
  obtain ⟨p, hp⟩ : ∃ p, w.heap.size = p := ⟨_, rfl⟩
  have HP : Hid (w.heap.size = p) := hp
  rw [hp] at K1 BW sz ⊢
  clear hp
  have DN := deN_other (s := S.data.toList) h1 h2
  have hSz : ¬ (240 : Int) < (S.size : Int) := by omega
  have e1 : (kind != 1) = true := by rw [bne_iff_ne]; exact h1
  have e2 : (kind != 2) = true := by rw [bne_iff_ne]; exact h2
  obtain ⟨r1, r2⟩ := deR_none DN
  have R1 : Hid _ := r1
  have R2 : Hid _ := r2
  clear r1 r2 DN
  have kz := K1
  obtain ⟨c0, c1, c2, c3⟩ := kz.four
  obtain ⟨g0, g1, g2, g3⟩ := kz.thaw
  have KX : Cl ((((W.setCell ⟨p, 0, none⟩ (.bool false)).setCell ⟨p, 1, none⟩ (.slice none 0 0)).setCell ⟨p, 2, none⟩ (.slice none 0 0)).setCell ⟨p, 3, none⟩ (.slice none 0 0)) p #[.bool false, .slice none 0 0, .slice none 0 0, .slice none 0 0] 30 := kz.set4 _ _ _ _
  have BX : Hid (Below p w ((((W.setCell ⟨p, 0, none⟩ (.bool false)).setCell ⟨p, 1, none⟩ (.slice none 0 0)).setCell ⟨p, 2, none⟩ (.slice none 0 0)).setCell ⟨p, 3, none⟩ (.slice none 0 0))) := belSet4 BW (Nat.le_refl _)
  clear kz K1 BW
  go_wp2
  (try simp only [Exit.inBlock, Exit.then])
  clear c0 c1 c2 c3 g0 g1 g2 g3
  generalize ((((W.setCell ⟨p, 0, none⟩ (.bool false)).setCell ⟨p, 1, none⟩ (.slice none 0 0)).setCell ⟨p, 2, none⟩ (.slice none 0 0)).setCell ⟨p, 3, none⟩ (.slice none 0 0)) = X at *
  obtain ⟨k0, k1, k2, k3⟩ := KX.four
  refine bodyPost_ret (v := .tuple #[.agg #[.bool false, .slice none 0 0, .slice none 0 0, .slice none 0 0], .bool false]) ?_ rfl ⟨_, _, _, by rw [R1.out, R2.out]; rfl, by rw [R1.out]; exact NdW.zero _ _, by rw [HP.out]; exact BX.out⟩
  rw [results_ct rfl]
  go_simp

set_option maxHeartbeats 8000000 in
set_option maxRecDepth 100000 in
theorem rdec_few (S : ByteArray) (w : World) (hS0 : S.size ≤ maxLen) (hS : S.size < 4) : Calls Try.prog 19 #[.int .u8 2, .string S] w (GvE w 2 S.data.toList) := by
  unfold maxLen at hS0
  have BW : Below w.heap.size w (w.alloc (.cells #[.bool false, .slice none 0 0, .slice none 0 0, .slice none 0 0] 30)) := belAlloc _ (Below.refl _ _)
  have K1 : Cl (w.alloc (.cells #[.bool false, .slice none 0 0, .slice none 0 0, .slice none 0 0] 30)) w.heap.size #[.bool false, .slice none 0 0, .slice none 0 0, .slice none 0 0] 30 := Cl.new0 _ _ _
  have sz : w.heap.size < (w.alloc (.cells #[.bool false, .slice none 0 0, .slice none 0 0, .slice none 0 0] 30)).heap.size := by simp
  go_enter Try.func19, Try.ntmps19
  go_upto_region 1 with fail
  generalize (w.alloc (.cells #[.bool false, .slice none 0 0, .slice none 0 0, .slice none 0 0] 30)) = W at *
  obtain ⟨p, hp⟩ : ∃ p, w.heap.size = p := ⟨_, rfl⟩
  have HP : Hid (w.heap.size = p) := hp
  rw [hp] at K1 BW sz ⊢
  clear hp
  have DN := deN_few (s := S.data.toList) (by rw [← Lib.size_eq]; exact hS)
  have hSz : ¬ (240 : Int) < (S.size : Int) := by omega
  have hSy : (S.size : Int) < 4 := by omega
  obtain ⟨r1, r2⟩ := deR_none DN
  have R1 : Hid _ := r1
  have R2 : Hid _ := r2
  clear r1 r2 DN
  have kz := K1
  obtain ⟨c0, c1, c2, c3⟩ := kz.four
  obtain ⟨g0, g1, g2, g3⟩ := kz.thaw
  have KX : Cl ((((W.setCell ⟨p, 0, none⟩ (.bool false)).setCell ⟨p, 1, none⟩ (.slice none 0 0)).setCell ⟨p, 2, none⟩ (.slice none 0 0)).setCell ⟨p, 3, none⟩ (.slice none 0 0)) p #[.bool false, .slice none 0 0, .slice none 0 0, .slice none 0 0] 30 := kz.set4 _ _ _ _
  have BX : Hid (Below p w ((((W.setCell ⟨p, 0, none⟩ (.bool false)).setCell ⟨p, 1, none⟩ (.slice none 0 0)).setCell ⟨p, 2, none⟩ (.slice none 0 0)).setCell ⟨p, 3, none⟩ (.slice none 0 0))) := belSet4 BW (Nat.le_refl _)
  clear kz K1 BW
  go_wp2
  (try simp only [Exit.inBlock, Exit.then])
  clear c0 c1 c2 c3 g0 g1 g2 g3
  generalize ((((W.setCell ⟨p, 0, none⟩ (.bool false)).setCell ⟨p, 1, none⟩ (.slice none 0 0)).setCell ⟨p, 2, none⟩ (.slice none 0 0)).setCell ⟨p, 3, none⟩ (.slice none 0 0)) = X at *
  obtain ⟨k0, k1, k2, k3⟩ := KX.four
  refine bodyPost_ret (v := .tuple #[.agg #[.bool false, .slice none 0 0, .slice none 0 0, .slice none 0 0], .bool false]) ?_ rfl ⟨_, _, _, by rw [R1.out, R2.out]; rfl, by rw [R1.out]; exact NdW.zero _ _, by rw [HP.out]; exact BX.out⟩
  rw [results_ct rfl]
  go_simp

set_option maxHeartbeats 8000000 in
set_option maxRecDepth 100000 in
theorem rdec_leaf (S : ByteArray) (w : World) (hS0 : S.size ≤ maxLen) (hS : S.size ≤ 240) : Calls Try.prog 19 #[.int .u8 1, .string S] w (GvE w 1 S.data.toList) := by
  unfold maxLen at hS0
  have BW : Below w.heap.size w (w.alloc (.cells #[.bool false, .slice none 0 0, .slice none 0 0, .slice none 0 0] 30)) := belAlloc _ (Below.refl _ _)
  have K1 : Cl (w.alloc (.cells #[.bool false, .slice none 0 0, .slice none 0 0, .slice none 0 0] 30)) w.heap.size #[.bool false, .slice none 0 0, .slice none 0 0, .slice none 0 0] 30 := Cl.new0 _ _ _
  have sz : w.heap.size < (w.alloc (.cells #[.bool false, .slice none 0 0, .slice none 0 0, .slice none 0 0] 30)).heap.size := by simp
  have C : Hid _ := rdecode_any S (w.alloc (.cells #[.bool false, .slice none 0 0, .slice none 0 0, .slice none 0 0] 30)) (by omega)
  go_enter Try.func19, Try.ntmps19
  go_upto_region 1 with fail
  generalize (w.alloc (.cells #[.bool false, .slice none 0 0, .slice none 0 0, .slice none 0 0] 30)) = W at *
  obtain ⟨p, hp⟩ : ∃ p, w.heap.size = p := ⟨_, rfl⟩
  have HP : Hid (w.heap.size = p) := hp
  rw [hp] at K1 BW sz ⊢
  clear hp
  have DN := deN_one (s := S.data.toList) (by rw [← Lib.size_eq]; exact hS)
  have hSz : ¬ (240 : Int) < (S.size : Int) := by omega
  have RR : Hid (deR 1 S.data.toList = ⟨deB S.data.toList, deL S.data.toList, [], []⟩ ∧ deO 1 S.data.toList = deB S.data.toList) := by
    show _ ∧ _
    cases hb : deB S.data.toList with
    | true =>
      rw [hb, if_pos rfl] at DN
      exact deR_some DN
    | false =>
      rw [hb, if_neg (by simp)] at DN
      obtain ⟨x1, x2⟩ := deR_none DN
      have x3 : deL S.data.toList = [] := deL_no hb
      rw [x1, x3]
      exact ⟨rfl, x2⟩
  clear DN
  generalize deB S.data.toList = bo at *
  generalize deL S.data.toList = l at *
  go_wp2_with fail
  refine Calls.mono C.out ?_
  rintro e w1 ⟨v', rfl, o1, b1⟩
  clear C
  obtain ⟨ae, ce, rfl, _⟩ := rowShape o1.row
  have K2 := K1.on b1
  obtain ⟨c0, c1, c2, c3⟩ := K2.four
  obtain ⟨g0, g1, g2, g3⟩ := K2.thaw
  have KX : Cl ((((w1.setCell ⟨p, 0, none⟩ (.bool bo)).setCell ⟨p, 1, none⟩ (.slice ae l.length ce)).setCell ⟨p, 2, none⟩ (.slice none 0 0)).setCell ⟨p, 3, none⟩ (.slice none 0 0)) p #[.bool bo, .slice ae l.length ce, .slice none 0 0, .slice none 0 0] 30 := K2.set4 _ _ _ _
  have BX : Hid (Below p w ((((w1.setCell ⟨p, 0, none⟩ (.bool bo)).setCell ⟨p, 1, none⟩ (.slice ae l.length ce)).setCell ⟨p, 2, none⟩ (.slice none 0 0)).setCell ⟨p, 3, none⟩ (.slice none 0 0))) := belSet4 (BW.trans (b1.mono (by omega))) (Nat.le_refl _)
  have OX : Hid (NdW p ((((w1.setCell ⟨p, 0, none⟩ (.bool bo)).setCell ⟨p, 1, none⟩ (.slice ae l.length ce)).setCell ⟨p, 2, none⟩ (.slice none 0 0)).setCell ⟨p, 3, none⟩ (.slice none 0 0)) (.slice ae l.length ce) (.slice none 0 0) (.slice none 0 0) ⟨bo, l, [], []⟩) := by
    have := NdW.set4 (q := p) (a := .bool bo) (b := .slice ae l.length ce) (c := .slice none 0 0) (d := .slice none 0 0) (⟨o1, Own.nil, Own.nil⟩ : NdW W.heap.size w1 (.slice ae l.length ce) (.slice none 0 0) (.slice none 0 0) ⟨bo, l, [], []⟩) sz
    exact this.mono (by omega)
  clear K1 K2 BW o1 b1
  go_wp2
  (try simp only [Exit.inBlock, Exit.then])
  clear c0 c1 c2 c3 g0 g1 g2 g3
  generalize ((((w1.setCell ⟨p, 0, none⟩ (.bool bo)).setCell ⟨p, 1, none⟩ (.slice ae l.length ce)).setCell ⟨p, 2, none⟩ (.slice none 0 0)).setCell ⟨p, 3, none⟩ (.slice none 0 0)) = X at *
  obtain ⟨k0, k1, k2, k3⟩ := KX.four
  refine bodyPost_ret (v := .tuple #[.agg #[.bool bo, .slice ae l.length ce, .slice none 0 0, .slice none 0 0], .bool bo]) ?_ rfl ⟨_, _, _, by rw [RR.out.1, RR.out.2], by rw [RR.out.1, HP.out]; exact OX.out, by rw [HP.out]; exact BX.out⟩
  rw [results_ct rfl]
  go_simp

/-- What holds all the time between the operations that append to Keys. -/
structure RegCS (W : World) (bb q : Nat) (ak : Option Addr) (nk ck : Nat) (az : Option Addr) (nz cz : Nat) (kl : List Int) (sl : List ByteArray) (f5 : Bool) (w : World) : Prop where
  k : Cl w q #[.bool false, .slice none 0 0, .slice ak nk ck, .slice az nz cz] 30
  b : Below bb W w
  other : OwnI bb w (.slice ak nk ck) kl
  o : f5 = false → OwnS bb w (.slice az nz cz) sl
  z : bb ≤ w.heap.size
theorem RegCS.on {W : World} {bb q : Nat} {ak : Option Addr} {nk ck : Nat} {az : Option Addr} {nz cz : Nat} {kl : List Int} {sl : List ByteArray} {f5 : Bool} {w w' : World} (h : RegCS W bb q ak nk ck az nz cz kl sl f5 w) (hb : Below w.heap.size w w') : RegCS W bb q ak nk ck az nz cz kl sl f5 w' :=
  ⟨h.k.on hb, h.b.trans (hb.mono h.z), ownsRow_below h.other hb, fun t => ownsRow_below (h.o t) hb, Nat.le_trans h.z hb.size⟩
theorem RegCS.grow {W : World} {bb q : Nat} {ak : Option Addr} {nk ck : Nat} {az : Option Addr} {nz cz : Nat} {kl : List Int} {sl : List ByteArray} {f5 : Bool} {w w' : World} (h : RegCS W bb q ak nk ck az nz cz kl sl f5 w) (hq : ∀ w0, Below bb w0 w → Below bb w0 w') (ht : OthT 9 w w') (hc : OthC 9 w w') : RegCS W bb q ak nk ck az nz cz kl sl true w' :=
  ⟨hc _ _ _ (by decide) h.k, h.b.trans (hq _ (Below.refl _ _)), ht _ _ _ _ _ _ (by decide) h.other, (fun t => by cases t), Nat.le_trans h.z (hq _ (Below.refl _ _)).size⟩
/-- What holds all the time between the operations that append to Kids. -/
structure RegCI (W : World) (bb q : Nat) (ak : Option Addr) (nk ck : Nat) (az : Option Addr) (nz cz : Nat) (kl : List Int) (sl : List ByteArray) (f5 : Bool) (w : World) : Prop where
  k : Cl w q #[.bool false, .slice none 0 0, .slice ak nk ck, .slice az nz cz] 30
  b : Below bb W w
  other : OwnS bb w (.slice az nz cz) sl
  o : f5 = false → OwnI bb w (.slice ak nk ck) kl
  z : bb ≤ w.heap.size
theorem RegCI.on {W : World} {bb q : Nat} {ak : Option Addr} {nk ck : Nat} {az : Option Addr} {nz cz : Nat} {kl : List Int} {sl : List ByteArray} {f5 : Bool} {w w' : World} (h : RegCI W bb q ak nk ck az nz cz kl sl f5 w) (hb : Below w.heap.size w w') : RegCI W bb q ak nk ck az nz cz kl sl f5 w' :=
  ⟨h.k.on hb, h.b.trans (hb.mono h.z), ownsRow_below h.other hb, fun t => ownsRow_below (h.o t) hb, Nat.le_trans h.z hb.size⟩
theorem RegCI.grow {W : World} {bb q : Nat} {ak : Option Addr} {nk ck : Nat} {az : Option Addr} {nz cz : Nat} {kl : List Int} {sl : List ByteArray} {f5 : Bool} {w w' : World} (h : RegCI W bb q ak nk ck az nz cz kl sl f5 w) (hq : ∀ w0, Below bb w0 w → Below bb w0 w') (ht : OthT 3 w w') (hc : OthC 3 w w') : RegCI W bb q ak nk ck az nz cz kl sl true w' :=
  ⟨hc _ _ _ (by decide) h.k, h.b.trans (hq _ (Below.refl _ _)), ht _ _ _ _ _ _ (by decide) h.other, (fun t => by cases t), Nat.le_trans h.z (hq _ (Below.refl _ _)).size⟩
/-- What holds between the operations of the region. -/
def JRdS (W : World) (bb q n : Nat) (ak : Option Addr) (nk ck : Nat) (az : Option Addr) (nz cz : Nat) (kl : List Int) (sl : List ByteArray) (s : ByteArray) (kk : ByteArray) (lm : List ByteArray) (y0 y1 y2 y3 y4 y5 y6 y7 y11 y12 y13 y14 y15 y16 y17 y18 y19 y20 y21 y22 y23 y24 y25 y26 y27 y28 y29 y30 y31 y32 y33 y34 y35 y36 y37 y38 y39 y40 y41 y42 y43 y44 y45 y46 y47 y48 y49 y50 y51 y52 y53 y54 y55 y56 y57 y67 y68 y69 y70 y71 y72 y73 y74 y75 y76 y77 y78 y79 y80 y81 y82 y83 y84 y85 y86 y87 y88 : Value) (f : List Bool) (a : Act) (w : World) : Prop :=
  ∃ f0 f1 f2 f3 f4 f5 f6 f7 f8 f9 : Bool, f = [f0, f1, f2, f3, f4, f5, f6, f7, f8, f9] ∧ f9 = false ∧ ∃ x58 x59 x60 x61 x62 x63 x64 x65 x66 : Value,
    a = { tmps := #[y0, y1, y2, y3, y4, y5, y6, y7, .pointer (some ⟨q, 0, none⟩), .string s, .int .i64 (n : Int), y11, y12, y13, y14, y15, y16, y17, y18, y19, y20, y21, y22, y23, y24, y25, y26, y27, y28, y29, y30, y31, y32, y33, y34, y35, y36, y37, y38, y39, y40, y41, y42, y43, y44, y45, y46, y47, y48, y49, y50, y51, y52, y53, y54, y55, y56, y57, x58, x59, x60, x61, x62, x63, x64, x65, x66, y67, y68, y69, y70, y71, y72, y73, y74, y75, y76, y77, y78, y79, y80, y81, y82, y83, y84, y85, y86, y87, y88], defers := [] } ∧ RegCS W bb q ak nk ck az nz cz kl sl f7 w ∧
    Hid (f0 = true → x58 = .pointer (some ⟨q, 3, none⟩)) ∧
    Hid (f1 = true → x59 = .slice az nz cz) ∧
    Hid (f2 = true → x60 = .string s) ∧
    Hid (f3 = true → x61 = .int .i64 (n : Int)) ∧
    Hid (f4 = true → x62 = .int .i64 ((n : Int) + 1)) ∧
    Hid (f5 = true → x63 = .string kk) ∧
    Hid (f6 = true → f7 = false → ∃ qq, x64 = .slice (some ⟨qq, 0, none⟩) 1 1 ∧ Cl w qq #[.string kk] 9) ∧
    Hid (f7 = true → ∃ ao n c, x65 = .slice ao n c ∧ OwnS bb w x65 (lm)) ∧
    Hid (f8 = true → x66 = .pointer (some ⟨q, 3, none⟩))
theorem JRdS.elim {W : World} {bb q n : Nat} {ak : Option Addr} {nk ck : Nat} {az : Option Addr} {nz cz : Nat} {kl : List Int} {sl : List ByteArray} {s : ByteArray} {kk : ByteArray} {lm : List ByteArray} {y0 y1 y2 y3 y4 y5 y6 y7 y11 y12 y13 y14 y15 y16 y17 y18 y19 y20 y21 y22 y23 y24 y25 y26 y27 y28 y29 y30 y31 y32 y33 y34 y35 y36 y37 y38 y39 y40 y41 y42 y43 y44 y45 y46 y47 y48 y49 y50 y51 y52 y53 y54 y55 y56 y57 y67 y68 y69 y70 y71 y72 y73 y74 y75 y76 y77 y78 y79 y80 y81 y82 y83 y84 y85 y86 y87 y88 : Value} {f : List Bool} {a : Act} {w : World} {C : List Bool → Act → World → Prop} (h : JRdS W bb q n ak nk ck az nz cz kl sl s kk lm y0 y1 y2 y3 y4 y5 y6 y7 y11 y12 y13 y14 y15 y16 y17 y18 y19 y20 y21 y22 y23 y24 y25 y26 y27 y28 y29 y30 y31 y32 y33 y34 y35 y36 y37 y38 y39 y40 y41 y42 y43 y44 y45 y46 y47 y48 y49 y50 y51 y52 y53 y54 y55 y56 y57 y67 y68 y69 y70 y71 y72 y73 y74 y75 y76 y77 y78 y79 y80 y81 y82 y83 y84 y85 y86 y87 y88 f a w)
    (k : ∀ (f0 f1 f2 f3 f4 f5 f6 f7 f8 f9 : Bool) (x58 x59 x60 x61 x62 x63 x64 x65 x66 : Value), f9 = false → RegCS W bb q ak nk ck az nz cz kl sl f7 w →
      Hid (f0 = true → x58 = .pointer (some ⟨q, 3, none⟩)) →
      Hid (f1 = true → x59 = .slice az nz cz) →
      Hid (f2 = true → x60 = .string s) →
      Hid (f3 = true → x61 = .int .i64 (n : Int)) →
      Hid (f4 = true → x62 = .int .i64 ((n : Int) + 1)) →
      Hid (f5 = true → x63 = .string kk) →
      Hid (f6 = true → f7 = false → ∃ qq, x64 = .slice (some ⟨qq, 0, none⟩) 1 1 ∧ Cl w qq #[.string kk] 9) →
      Hid (f7 = true → ∃ ao n c, x65 = .slice ao n c ∧ OwnS bb w x65 (lm)) →
      Hid (f8 = true → x66 = .pointer (some ⟨q, 3, none⟩)) →
      C [f0, f1, f2, f3, f4, f5, f6, f7, f8, f9] { tmps := #[y0, y1, y2, y3, y4, y5, y6, y7, .pointer (some ⟨q, 0, none⟩), .string s, .int .i64 (n : Int), y11, y12, y13, y14, y15, y16, y17, y18, y19, y20, y21, y22, y23, y24, y25, y26, y27, y28, y29, y30, y31, y32, y33, y34, y35, y36, y37, y38, y39, y40, y41, y42, y43, y44, y45, y46, y47, y48, y49, y50, y51, y52, y53, y54, y55, y56, y57, x58, x59, x60, x61, x62, x63, x64, x65, x66, y67, y68, y69, y70, y71, y72, y73, y74, y75, y76, y77, y78, y79, y80, y81, y82, y83, y84, y85, y86, y87, y88], defers := [] } w) : C f a w :=
  let ⟨f0, f1, f2, f3, f4, f5, f6, f7, f8, f9, ef, e, x58, x59, x60, x61, x62, x63, x64, x65, x66, ea, hB, h0, h1, h2, h3, h4, h5, h6, h7, h8⟩ := h
  ef ▸ ea ▸ k f0 f1 f2 f3 f4 f5 f6 f7 f8 f9 x58 x59 x60 x61 x62 x63 x64 x65 x66 e hB h0 h1 h2 h3 h4 h5 h6 h7 h8

/-- What holds between the operations of the region. -/
def JRdI (W : World) (bb q n : Nat) (ak : Option Addr) (nk ck : Nat) (az : Option Addr) (nz cz : Nat) (kl : List Int) (sl : List ByteArray) (s : ByteArray) (v4 : ByteArray) (vv : Int) (lm : List Int) (y0 y1 y2 y3 y4 y5 y6 y7 y11 y12 y13 y14 y15 y16 y17 y18 y19 y20 y21 y22 y23 y24 y25 y26 y27 y28 y29 y30 y31 y32 y33 y34 y35 y36 y37 y38 y39 y40 y41 y42 y43 y44 y45 y46 y47 y48 y49 y50 y51 y52 y53 y54 y55 y56 y57 y58 y59 y60 y61 y62 y63 y64 y65 y66 y79 y80 y81 y82 y83 y84 y85 y86 y87 y88 : Value) (f : List Bool) (a : Act) (w : World) : Prop :=
  ∃ f0 f1 f2 f3 f4 f5 f6 f7 f8 f9 f10 f11 f12 : Bool, f = [f0, f1, f2, f3, f4, f5, f6, f7, f8, f9, f10, f11, f12] ∧ f12 = false ∧ ∃ x67 x68 x69 x70 x71 x72 x73 x74 x75 x76 x77 x78 : Value,
    a = { tmps := #[y0, y1, y2, y3, y4, y5, y6, y7, .pointer (some ⟨q, 0, none⟩), .string s, .int .i64 (n : Int), y11, y12, y13, y14, y15, y16, y17, y18, y19, y20, y21, y22, y23, y24, y25, y26, y27, y28, y29, y30, y31, y32, y33, y34, y35, y36, y37, y38, y39, y40, y41, y42, y43, y44, y45, y46, y47, y48, y49, y50, y51, y52, y53, y54, y55, y56, y57, y58, y59, y60, y61, y62, y63, y64, y65, y66, x67, x68, x69, x70, x71, x72, x73, x74, x75, x76, x77, x78, y79, y80, y81, y82, y83, y84, y85, y86, y87, y88], defers := [] } ∧ RegCI W bb q ak nk ck az nz cz kl sl f10 w ∧
    Hid (f0 = true → x67 = .pointer (some ⟨q, 2, none⟩)) ∧
    Hid (f1 = true → x68 = .slice ak nk ck) ∧
    Hid (f2 = true → x69 = .string s) ∧
    Hid (f3 = true → x70 = .int .i64 (n : Int)) ∧
    Hid (f4 = true → x71 = .int .i64 ((n : Int) + 1)) ∧
    Hid (f5 = true → x72 = .int .i64 (n : Int)) ∧
    Hid (f6 = true → x73 = .int .i64 ((n : Int) + 5)) ∧
    Hid (f7 = true → x74 = .string v4) ∧
    Hid (f8 = true → x75 = .int .i64 vv) ∧
    Hid (f9 = true → f10 = false → f8 = true ∧ ∃ qq, x76 = .slice (some ⟨qq, 0, none⟩) 1 1 ∧ Cl w qq #[.int .i64 vv] 3) ∧
    Hid (f10 = true → f8 = true ∧ ∃ ao n c, x77 = .slice ao n c ∧ OwnI bb w x77 (lm)) ∧
    Hid (f11 = true → x78 = .pointer (some ⟨q, 2, none⟩))
theorem JRdI.elim {W : World} {bb q n : Nat} {ak : Option Addr} {nk ck : Nat} {az : Option Addr} {nz cz : Nat} {kl : List Int} {sl : List ByteArray} {s : ByteArray} {v4 : ByteArray} {vv : Int} {lm : List Int} {y0 y1 y2 y3 y4 y5 y6 y7 y11 y12 y13 y14 y15 y16 y17 y18 y19 y20 y21 y22 y23 y24 y25 y26 y27 y28 y29 y30 y31 y32 y33 y34 y35 y36 y37 y38 y39 y40 y41 y42 y43 y44 y45 y46 y47 y48 y49 y50 y51 y52 y53 y54 y55 y56 y57 y58 y59 y60 y61 y62 y63 y64 y65 y66 y79 y80 y81 y82 y83 y84 y85 y86 y87 y88 : Value} {f : List Bool} {a : Act} {w : World} {C : List Bool → Act → World → Prop} (h : JRdI W bb q n ak nk ck az nz cz kl sl s v4 vv lm y0 y1 y2 y3 y4 y5 y6 y7 y11 y12 y13 y14 y15 y16 y17 y18 y19 y20 y21 y22 y23 y24 y25 y26 y27 y28 y29 y30 y31 y32 y33 y34 y35 y36 y37 y38 y39 y40 y41 y42 y43 y44 y45 y46 y47 y48 y49 y50 y51 y52 y53 y54 y55 y56 y57 y58 y59 y60 y61 y62 y63 y64 y65 y66 y79 y80 y81 y82 y83 y84 y85 y86 y87 y88 f a w)
    (k : ∀ (f0 f1 f2 f3 f4 f5 f6 f7 f8 f9 f10 f11 f12 : Bool) (x67 x68 x69 x70 x71 x72 x73 x74 x75 x76 x77 x78 : Value), f12 = false → RegCI W bb q ak nk ck az nz cz kl sl f10 w →
      Hid (f0 = true → x67 = .pointer (some ⟨q, 2, none⟩)) →
      Hid (f1 = true → x68 = .slice ak nk ck) →
      Hid (f2 = true → x69 = .string s) →
      Hid (f3 = true → x70 = .int .i64 (n : Int)) →
      Hid (f4 = true → x71 = .int .i64 ((n : Int) + 1)) →
      Hid (f5 = true → x72 = .int .i64 (n : Int)) →
      Hid (f6 = true → x73 = .int .i64 ((n : Int) + 5)) →
      Hid (f7 = true → x74 = .string v4) →
      Hid (f8 = true → x75 = .int .i64 vv) →
      Hid (f9 = true → f10 = false → f8 = true ∧ ∃ qq, x76 = .slice (some ⟨qq, 0, none⟩) 1 1 ∧ Cl w qq #[.int .i64 vv] 3) →
      Hid (f10 = true → f8 = true ∧ ∃ ao n c, x77 = .slice ao n c ∧ OwnI bb w x77 (lm)) →
      Hid (f11 = true → x78 = .pointer (some ⟨q, 2, none⟩)) →
      C [f0, f1, f2, f3, f4, f5, f6, f7, f8, f9, f10, f11, f12] { tmps := #[y0, y1, y2, y3, y4, y5, y6, y7, .pointer (some ⟨q, 0, none⟩), .string s, .int .i64 (n : Int), y11, y12, y13, y14, y15, y16, y17, y18, y19, y20, y21, y22, y23, y24, y25, y26, y27, y28, y29, y30, y31, y32, y33, y34, y35, y36, y37, y38, y39, y40, y41, y42, y43, y44, y45, y46, y47, y48, y49, y50, y51, y52, y53, y54, y55, y56, y57, y58, y59, y60, y61, y62, y63, y64, y65, y66, x67, x68, x69, x70, x71, x72, x73, x74, x75, x76, x77, x78, y79, y80, y81, y82, y83, y84, y85, y86, y87, y88], defers := [] } w) : C f a w :=
  let ⟨f0, f1, f2, f3, f4, f5, f6, f7, f8, f9, f10, f11, f12, ef, e, x67, x68, x69, x70, x71, x72, x73, x74, x75, x76, x77, x78, ea, hB, h0, h1, h2, h3, h4, h5, h6, h7, h8, h9, h10, h11⟩ := h
  ef ▸ ea ▸ k f0 f1 f2 f3 f4 f5 f6 f7 f8 f9 f10 f11 f12 x67 x68 x69 x70 x71 x72 x73 x74 x75 x76 x77 x78 e hB h0 h1 h2 h3 h4 h5 h6 h7 h8 h9 h10 h11

set_option maxHeartbeats 8000000 in
set_option maxRecDepth 100000 in
theorem rdec_inner (S : ByteArray) (w : World) (hS0 : S.size ≤ maxLen) (hS : S.size ≤ 240) (h4 : 4 ≤ S.size) : Calls Try.prog 19 #[.int .u8 2, .string S] w (GvE w 2 S.data.toList) := by
  unfold maxLen at hS0
  have BW : Below w.heap.size w (w.alloc (.cells #[.bool false, .slice none 0 0, .slice none 0 0, .slice none 0 0] 30)) := belAlloc _ (Below.refl _ _)
  have K1 : Cl (w.alloc (.cells #[.bool false, .slice none 0 0, .slice none 0 0, .slice none 0 0] 30)) w.heap.size #[.bool false, .slice none 0 0, .slice none 0 0, .slice none 0 0] 30 := Cl.new0 _ _ _
  have sz : w.heap.size < (w.alloc (.cells #[.bool false, .slice none 0 0, .slice none 0 0, .slice none 0 0] 30)).heap.size := by simp
  go_enter Try.func19, Try.ntmps19
  go_upto_region 1 with fail
  generalize (w.alloc (.cells #[.bool false, .slice none 0 0, .slice none 0 0, .slice none 0 0] 30)) = W at *
  obtain ⟨p, hp⟩ : ∃ p, w.heap.size = p := ⟨_, rfl⟩
  have HP : Hid (w.heap.size = p) := hp
  rw [hp] at K1 BW sz ⊢
  clear hp
  have hSz : ¬ (240 : Int) < (S.size : Int) := by omega
  have hSy : ¬ (S.size : Int) < 4 := by omega
  have h4z : (4 : Int) ≤ (S.size : Int) := by omega
  have r1 : ∀ u, (Instr.slice 9 (.string S) none (some (.int .i64 4)) none).run Try.prog u = .ok (.string (S.extract 0 4)) u := fun u => by
    have := run_slice_string_h (P := Try.prog) u 9 S Try.underlying9 .i64 4 (by omega) (by omega)
    rw [this]; rfl
  have r2 : ∀ u, (Instr.slice 9 (.string S) (some (.int .i64 4)) none none).run Try.prog u = .ok (.string (S.extract 4 S.size)) u := fun u => by
    have := run_slice_string_l (P := Try.prog) u 9 S Try.underlying9 .i64 4 (by omega) (by omega)
    rw [this]; rfl
  have D0 : Hid (DkI S (S.extract 4 S.size) ((beNat (S.extract 0 4).data.toList : Nat) : Int) 0 []) := DkI.begin h4
  have C0 : Hid (∀ X, Calls Try.prog 43 #[.string (S.extract 0 4)] X fun r w' => r = .returned (.int .i64 ((beNat (S.extract 0 4).data.toList : Nat) : Int)) ∧ X = w') := fun X => refInt _ X (by simp; omega)
  have z0 : (S.extract 4 S.size).size = S.size - 4 := by simp
  have Z0 : Hid ((S.extract 4 S.size).size ≤ S.size) := by show _ ≤ _; omega
  clear z0
  generalize ((beNat (S.extract 0 4).data.toList : Nat) : Int) = k0 at *
  generalize S.extract 0 4 = hd at *
  generalize S.extract 4 S.size = s0 at *
  obtain ⟨bb, hbb⟩ : ∃ b, W.heap.size = b := ⟨_, rfl⟩
  have HBB : Hid (W.heap.size = bb) := hbb
  have OI : Aside (OwnI bb (W.alloc (.cells #[.int .i64 k0] 3)) (.slice (some ⟨W.heap.size, 0, none⟩) 1 1) [k0]) := ownI1 W k0 (Nat.le_of_eq hbb.symm)
  have OI2 : Aside (OwnI bb ((W.alloc (.cells #[.int .i64 k0] 3)).alloc (.cells #[.bool false, .slice none 0 0, .slice (some ⟨W.heap.size, 0, none⟩) 1 1, .slice none 0 0] 30)) (.slice (some ⟨W.heap.size, 0, none⟩) 1 1) [k0]) := ownsRow_below OI.out (belAlloc _ (Below.refl _ _))
  have KQ : Aside (Cl ((W.alloc (.cells #[.int .i64 k0] 3)).alloc (.cells #[.bool false, .slice none 0 0, .slice (some ⟨W.heap.size, 0, none⟩) 1 1, .slice none 0 0] 30)) (W.heap.size + 1) #[.bool false, .slice none 0 0, .slice (some ⟨W.heap.size, 0, none⟩) 1 1, .slice none 0 0] 30) := Cl.new1 _ _ _ _
  have B3 : Hid (Below bb W ((W.alloc (.cells #[.int .i64 k0] 3)).alloc (.cells #[.bool false, .slice none 0 0, .slice (some ⟨W.heap.size, 0, none⟩) 1 1, .slice none 0 0] 30))) := Below.mono (belAlloc _ (belAlloc _ (Below.refl _ W))) (Nat.le_of_eq hbb.symm)
  have hq : bb ≤ W.heap.size + 1 := by omega
  have pbb : p < bb := by omega
  clear OI hbb sz
  go_upto_region 8 with fail
  go_wp2_with fail
  refine Calls.mono (C0.out _) ?_
  rintro e w1 ⟨rfl, rfl⟩
  clear C0
  go_wp2
  generalize ((W.alloc (.cells #[.int .i64 k0] 3)).alloc (.cells #[.bool false, .slice none 0 0, .slice (some ⟨W.heap.size, 0, none⟩) 1 1, .slice none 0 0] 30)) = W4 at *
  generalize W.heap.size + 1 = q at *
  go_loopg [9] S.size (fun kx s9 wr => ∃ (ak : Option Addr) (nk ck : Nat) (az : Option Addr) (nz cz : Nat) (out : List Pk) (s : ByteArray), s9 = .string s ∧ s.size ≤ kx ∧ out.length + s.size ≤ S.size ∧ Hid (szK (out.map (·.1)) ≤ 245 * out.length) ∧ Hid (DkI S s k0 0 out) ∧ Aside (Cl wr q #[.bool false, .slice none 0 0, .slice ak nk ck, .slice az nz cz] 30) ∧ Aside (OwnI bb wr (.slice ak nk ck) (k0 :: out.map (·.2))) ∧ Aside (OwnS bb wr (.slice az nz cz) (out.map (·.1))) ∧ Hid (Below bb W wr))
  case atStart => exact ⟨_, _, _, _, _, _, [], s0, rfl, Z0.out, by have := Z0.out; simp; omega, by show _ ≤ _; simp [szK], D0, KQ, OI2, OwnS.empty _ _, B3⟩
  case round =>
    clear KQ OI2 B3 D0 r1 r2 Z0
    obtain ⟨ak, nk, ck, az, nz, cz, out, s, rfl, hk, hsz, HZ, HD, HQ, HI, HO, HB⟩ := hrel
    have hlt := HQ.out.lt
    by_cases hs0 : s.size = 0
    · have hs1 : ¬ (0 : Int) < (s.size : Int) := by omega
      have G := HD.out.good hs0 hS
      have NX : NdO bb wr (.slice none 0 0) (.slice ak nk ck) (.slice az nz cz) (inN k0 out) := ⟨OwnP.empty _ _, HI.out, HO.out⟩
      have sm : Sm (inN k0 out) := ⟨by simp [inN], by simp [inN]; omega, by simp [inN]; omega, by simp [inN, szL], by have := HZ.out; simp only [inN]; omega⟩
      have CR : Hid _ := rnright_any (inN k0 out) _ _ _ wr NX.r sm
      have NW : Hid (NdW bb wr (.slice none 0 0) (.slice ak nk ck) (.slice az nz cz) (inN k0 out)) := NX.w
      obtain ⟨x0, x1, x2, x3⟩ := HQ.out.four
      have k1 := clTo K1 HB.out pbb
      have lf : (inN k0 out).leaf = false := rfl
      rw [lf] at CR
      clear HD hs0 NX sm HI HO HZ
      cases hr : rtN (inN k0 out) with
      | true =>
        rw [hr, if_pos rfl] at G
        rw [hr] at CR
        obtain ⟨r1, r2⟩ := deR_some G
        have R1 : Hid _ := r1
        have R2 : Hid _ := r2
        clear r1 r2 hr G
        go_wp2_with fail
        refine Calls.mono CR.out ?_
        rintro e w5 ⟨rfl, hb5⟩
        have KQ5 := HQ.out.on hb5
        have k5 := k1.on hb5
        obtain ⟨d0, d1, d2, d3⟩ := KQ5.four
        obtain ⟨f0, f1, f2, f3⟩ := k5.four
        obtain ⟨g0, g1, g2, g3⟩ := k5.thaw
        have KX : Cl ((((w5.setCell ⟨p, 0, none⟩ (.bool false)).setCell ⟨p, 1, none⟩ (.slice none 0 0)).setCell ⟨p, 2, none⟩ (.slice ak nk ck)).setCell ⟨p, 3, none⟩ (.slice az nz cz)) p #[.bool false, .slice none 0 0, .slice ak nk ck, .slice az nz cz] 30 := k5.set4 _ _ _ _
        have BX : Hid (Below p w ((((w5.setCell ⟨p, 0, none⟩ (.bool false)).setCell ⟨p, 1, none⟩ (.slice none 0 0)).setCell ⟨p, 2, none⟩ (.slice ak nk ck)).setCell ⟨p, 3, none⟩ (.slice az nz cz))) := belSet4 (BW.trans ((HB.out.trans (hb5.mono (by omega))).mono (by omega))) (Nat.le_refl _)
        have OX : Hid (NdW p ((((w5.setCell ⟨p, 0, none⟩ (.bool false)).setCell ⟨p, 1, none⟩ (.slice none 0 0)).setCell ⟨p, 2, none⟩ (.slice ak nk ck)).setCell ⟨p, 3, none⟩ (.slice az nz cz)) (.slice none 0 0) (.slice ak nk ck) (.slice az nz cz) (inN k0 out)) := by
          have := NdW.set4 (q := p) (a := .bool false) (b := .slice none 0 0) (c := .slice ak nk ck) (d := .slice az nz cz) (NW.out.below hb5) pbb
          exact this.mono (by omega)
        clear K1 k1 k5 KQ5 hb5 BW NW x0 x1 x2 x3
        go_wp2
        (try simp only [Exit.inBlock, Exit.then])
        clear d0 d1 d2 d3 f0 f1 f2 f3 g0 g1 g2 g3
        generalize ((((w5.setCell ⟨p, 0, none⟩ (.bool false)).setCell ⟨p, 1, none⟩ (.slice none 0 0)).setCell ⟨p, 2, none⟩ (.slice ak nk ck)).setCell ⟨p, 3, none⟩ (.slice az nz cz)) = X at *
        obtain ⟨k0, k1, k2, k3⟩ := KX.four
        refine bodyPost_ret (v := .tuple #[.agg #[.bool false, .slice none 0 0, .slice ak nk ck, .slice az nz cz], .bool true]) ?_ rfl ⟨_, _, _, by rw [R1.out, R2.out]; rfl, by rw [R1.out, HP.out]; exact OX.out, by rw [HP.out]; exact BX.out⟩
        rw [results_ct rfl]
        go_simp
      | false =>
        rw [hr, if_neg (by simp)] at G
        rw [hr] at CR
        have DN := G
        clear hr G
        go_wp2_with fail
        refine Calls.mono CR.out ?_
        rintro e w5 ⟨rfl, hb5⟩
        obtain ⟨r1, r2⟩ := deR_none DN
        have R1 : Hid _ := r1
        have R2 : Hid _ := r2
        clear r1 r2 DN
        have kz := k1.on hb5
        obtain ⟨c0, c1, c2, c3⟩ := kz.four
        obtain ⟨g0, g1, g2, g3⟩ := kz.thaw
        have KX : Cl ((((w5.setCell ⟨p, 0, none⟩ (.bool false)).setCell ⟨p, 1, none⟩ (.slice none 0 0)).setCell ⟨p, 2, none⟩ (.slice none 0 0)).setCell ⟨p, 3, none⟩ (.slice none 0 0)) p #[.bool false, .slice none 0 0, .slice none 0 0, .slice none 0 0] 30 := kz.set4 _ _ _ _
        have BX : Hid (Below p w ((((w5.setCell ⟨p, 0, none⟩ (.bool false)).setCell ⟨p, 1, none⟩ (.slice none 0 0)).setCell ⟨p, 2, none⟩ (.slice none 0 0)).setCell ⟨p, 3, none⟩ (.slice none 0 0))) := belSet4 (BW.trans ((HB.out.trans (hb5.mono (by omega))).mono (by omega))) (Nat.le_refl _)
        clear kz K1 k1 hb5 BW NW x0 x1 x2 x3
        go_wp2
        (try simp only [Exit.inBlock, Exit.then])
        clear c0 c1 c2 c3 g0 g1 g2 g3
        generalize ((((w5.setCell ⟨p, 0, none⟩ (.bool false)).setCell ⟨p, 1, none⟩ (.slice none 0 0)).setCell ⟨p, 2, none⟩ (.slice none 0 0)).setCell ⟨p, 3, none⟩ (.slice none 0 0)) = X at *
        obtain ⟨k0, k1, k2, k3⟩ := KX.four
        refine bodyPost_ret (v := .tuple #[.agg #[.bool false, .slice none 0 0, .slice none 0 0, .slice none 0 0], .bool false]) ?_ rfl ⟨_, _, _, by rw [R1.out, R2.out]; rfl, by rw [R1.out]; exact NdW.zero _ _, by rw [HP.out]; exact BX.out⟩
        rw [results_ct rfl]
        go_simp
    · have hs1 : (0 : Int) < (s.size : Int) := by omega
      have hs2 : 0 < s.size := by omega
      go_upto_region 12 with fail
      obtain ⟨n, hn⟩ : ∃ n : Nat, (s[0]'hs2).toNat = n := ⟨_, rfl⟩
      have hn8 : n < 256 := by rw [← hn]; exact UInt8.toNat_lt _
      have en : wrap64 ((s[0]'hs2).toNat : Int) = (n : Int) := by rw [hn]; unfold wrap64; omega
      have HN : Hid ((s[0]'hs2).toNat = n) := hn
      simp only [en]
      clear en hn
      by_cases h2 : s.size < n + 5
      · have h2z : (s.size : Int) < (n : Int) + 5 := by omega
        have D2 : DkI S s k0 1 (out ++ [default]) := HD.out.next hs0 (Or.inr ⟨by decide, stpK_ba0 s hs2 n HN.out h2⟩)
        have DN := D2.bad (by decide) hS
        clear D2 HD
        obtain ⟨r1, r2⟩ := deR_none DN
        have R1 : Hid _ := r1
        have R2 : Hid _ := r2
        clear r1 r2 DN
        have kz := clTo K1 HB.out pbb
        obtain ⟨c0, c1, c2, c3⟩ := kz.four
        obtain ⟨g0, g1, g2, g3⟩ := kz.thaw
        have KX : Cl ((((wr.setCell ⟨p, 0, none⟩ (.bool false)).setCell ⟨p, 1, none⟩ (.slice none 0 0)).setCell ⟨p, 2, none⟩ (.slice none 0 0)).setCell ⟨p, 3, none⟩ (.slice none 0 0)) p #[.bool false, .slice none 0 0, .slice none 0 0, .slice none 0 0] 30 := kz.set4 _ _ _ _
        have BX : Hid (Below p w ((((wr.setCell ⟨p, 0, none⟩ (.bool false)).setCell ⟨p, 1, none⟩ (.slice none 0 0)).setCell ⟨p, 2, none⟩ (.slice none 0 0)).setCell ⟨p, 3, none⟩ (.slice none 0 0))) := belSet4 (BW.trans (HB.out.mono (by omega))) (Nat.le_refl _)
        clear kz K1 BW HI HO HQ HZ
        go_wp2
        (try simp only [Exit.inBlock, Exit.then])
        clear c0 c1 c2 c3 g0 g1 g2 g3
        generalize ((((wr.setCell ⟨p, 0, none⟩ (.bool false)).setCell ⟨p, 1, none⟩ (.slice none 0 0)).setCell ⟨p, 2, none⟩ (.slice none 0 0)).setCell ⟨p, 3, none⟩ (.slice none 0 0)) = X at *
        obtain ⟨k0, k1, k2, k3⟩ := KX.four
        refine bodyPost_ret (v := .tuple #[.agg #[.bool false, .slice none 0 0, .slice none 0 0, .slice none 0 0], .bool false]) ?_ rfl ⟨_, _, _, by rw [R1.out, R2.out]; rfl, by rw [R1.out]; exact NdW.zero _ _, by rw [HP.out]; exact BX.out⟩
        rw [results_ct rfl]
        go_simp
      · have h2z : ¬ (s.size : Int) < (n : Int) + 5 := by omega
        have D2 := HD.out.next hs0 (e2 := 0) (Or.inl ⟨rfl, stpK_ba1 s hs2 n HN.out (by omega)⟩)
        have r1 : ∀ u, (Instr.slice 9 (.string s) (some (.int .i64 1)) (some (.int .i64 ((n : Int) + 1))) none).run Try.prog u = .ok (.string (s.extract 1 (n + 1))) u := fun u => by
          have := run_slice_string (P := Try.prog) u 9 s .i64 .i64 1 ((n : Int) + 1) Try.underlying9 (by omega) (by omega) (by omega)
          rw [this]; rfl
        have r2 : ∀ u, (Instr.slice 9 (.string s) (some (.int .i64 ((n : Int) + 1))) (some (.int .i64 ((n : Int) + 5))) none).run Try.prog u = .ok (.string (s.extract (n + 1) (n + 5))) u := fun u => by
          have := run_slice_string (P := Try.prog) u 9 s .i64 .i64 ((n : Int) + 1) ((n : Int) + 5) Try.underlying9 (by omega) (by omega) (by omega)
          rw [this]; rfl
        have r3 : ∀ u, (Instr.slice 9 (.string s) (some (.int .i64 ((n : Int) + 5))) none none).run Try.prog u = .ok (.string (s.extract (n + 5) s.size)) u := fun u => by
          have := run_slice_string_l (P := Try.prog) u 9 s Try.underlying9 .i64 ((n : Int) + 5) (by omega) (by omega)
          rw [this]; rfl
        have l4 : Hid ((s.extract (n + 1) (n + 5)).size ≤ 4) := by show _ ≤ _; simp; omega
        have kz : (s.extract 1 (n + 1)).size ≤ 240 := by simp; omega
        have s2z : (s.extract (n + 5) s.size).size < s.size := by simp; omega
        obtain ⟨vv, hvv⟩ : ∃ v, ((beNat (s.extract (n + 1) (n + 5)).data.toList : Nat) : Int) = v := ⟨_, rfl⟩
        have HV : Hid (((beNat (s.extract (n + 1) (n + 5)).data.toList : Nat) : Int) = vv) := hvv
        rw [hvv] at D2
        clear hvv
        generalize s.extract (n + 1) (n + 5) = v4 at *
        generalize s.extract 1 (n + 1) = kk at *
        generalize s.extract (n + 5) s.size = s2 at *
        obtain ⟨o2, ho2⟩ : ∃ x, out ++ [(kk, vv)] = x := ⟨_, rfl⟩
        have l2 : o2.length = out.length + 1 := by rw [← ho2]; simp
        have LMS : Hid (out.map (·.1) ++ [kk] = o2.map (·.1)) := by show _ = _; rw [← ho2, pk_m1]
        have LM : Hid ((k0 :: out.map (·.2)) ++ [vv] = k0 :: o2.map (·.2)) := by show _ = _; rw [← ho2, pk_m2]
        have HZ2 : Hid (szK (o2.map (·.1)) ≤ 245 * o2.length) := by
          show _ ≤ _
          have := HZ.out
          rw [← LMS.out, szK_app, l2]
          have : szK [kk] = 5 + kk.size := by simp [szK]
          omega
        have HD2 : Hid (DkI S s2 k0 0 o2) := by rw [ho2] at D2; exact D2
        clear ho2 HZ D2 HD
        have v1 : IntKind.i64.wrap ((n : Int) + 1) = (n : Int) + 1 := by rw [IntKind.wrap_i64]; omega
        have v5 : IntKind.i64.wrap ((n : Int) + 5) = (n : Int) + 5 := by rw [IntKind.wrap_i64]; omega
        have LS : Hid ((out.map (·.1)).length < 100000) := by show _ < _; simp; omega
        have LL : Hid ((k0 :: out.map (·.2)).length < 100000) := by show _ < _; simp; omega
        go_upto_region 14 with fail
        have ez : decide (0 < s.size) = true := decide_eq_true hs2
        (try simp only [ez])
        clear ez
        have ST : Hid (RegCS W bb q ak nk ck az nz cz (k0 :: out.map (·.2)) (out.map (·.1)) false wr.drew) := ⟨HQ.out, HB.out.drew, HI.out, fun _ => HO.out, by show bb ≤ wr.heap.size; omega⟩
        clear HQ HB HI HO
        refine region_inv 9 (JRdS W bb q n ak nk ck az nz cz (k0 :: out.map (·.2)) (out.map (·.1)) s kk (o2.map (·.1)) _ _ _ _ _ _ _ _ _ _ _ _ _ _ _ _ _ _ _ _ _ _ _ _ _ _ _ _ _ _ _ _ _ _ _ _ _ _ _ _ _ _ _ _ _ _ _ _ _ _ _ _ _ _ _ _ _ _ _ _ _ _ _ _ _ _ _ _ _ _ _ _ _ _ _ _ _) (by kernel_rfl) (by kernel_rfl) (by kernel_rfl) ⟨false, false, false, false, false, false, false, false, false, false, rfl, rfl, _, _, _, _, _, _, _, _, _, rfl, ST.out, (fun h => by cases h), (fun h => by cases h), (fun h => by cases h), (fun h => by cases h), (fun h => by cases h), (fun h => by cases h), (fun h => by cases h), (fun h => by cases h), (fun h => by cases h)⟩ ?_ ?_ ?_
        · intro i f a w' hne hl hJ
          refine JRdS.elim hJ (C := fun f a w' => i ∈ Region.ready .any _ f.toArray → wpOp _ _ _ i (fun a' w'' => JRdS W bb q n ak nk ck az nz cz (k0 :: out.map (·.2)) (out.map (·.1)) s kk (o2.map (·.1)) _ _ _ _ _ _ _ _ _ _ _ _ _ _ _ _ _ _ _ _ _ _ _ _ _ _ _ _ _ _ _ _ _ _ _ _ _ _ _ _ _ _ _ _ _ _ _ _ _ _ _ _ _ _ _ _ _ _ _ _ _ _ _ _ _ _ _ _ _ _ _ _ _ _ _ _ _ (f.set i true) a' w'') a w') ?_
          clear hJ hl f a
          intro f0 f1 f2 f3 f4 f5 f6 f7 f8 f9 x58 x59 x60 x61 x62 x63 x64 x65 x66 e9 hB h0 h1 h2 h3 h4 h5 h6 h7 h8 hi
          obtain ⟨hlt, hun, _⟩ := ready_mem hi
          have hlt' : i < 10 := hlt
          clear hlt
          rcases (by omega : i = 0 ∨ i = 1 ∨ i = 2 ∨ i = 3 ∨ i = 4 ∨ i = 5 ∨ i = 6 ∨ i = 7 ∨ i = 8) with rfl | rfl | rfl | rfl | rfl | rfl | rfl | rfl | rfl
          · have un : f0 = false := hun
            clear hun
            clear hi hne hlt'
            refine wpOp_step rfl (fun K hK => ?_)
            have HK : Shut _ := hK
            clear hK
            go_simp
            refine HK.out _ _ ?_
            exact ⟨true, f1, f2, f3, f4, f5, f6, f7, f8, f9, rfl, e9, _, _, _, _, _, _, _, _, _, rfl, hB, (fun _ => rfl), h1, h2, h3, h4, h5, h6, h7, h8⟩
          · have un : f1 = false := hun
            clear hun
            have d0 : f0 = true := ready_dep 0 hi (by kernel_rfl)
            have y0 := h0.out d0
            subst y0
            clear hi hne hlt'
            obtain ⟨i0, i1, i2, i3⟩ := hB.k.four
            refine wpOp_step rfl (fun K hK => ?_)
            have HK : Shut _ := hK
            clear hK
            go_simp
            refine HK.out _ _ ?_
            exact ⟨f0, true, f2, f3, f4, f5, f6, f7, f8, f9, rfl, e9, _, _, _, _, _, _, _, _, _, rfl, hB, h0, (fun _ => rfl), h2, h3, h4, h5, h6, h7, h8⟩
          · have un : f2 = false := hun
            clear hun
            clear hi hne hlt'
            refine wpOp_step rfl (fun K hK => ?_)
            have HK : Shut _ := hK
            clear hK
            go_simp
            refine HK.out _ _ ?_
            exact ⟨f0, f1, true, f3, f4, f5, f6, f7, f8, f9, rfl, e9, _, _, _, _, _, _, _, _, _, rfl, hB, h0, h1, (fun _ => rfl), h3, h4, h5, h6, h7, h8⟩
          · have un : f3 = false := hun
            clear hun
            clear hi hne hlt'
            refine wpOp_step rfl (fun K hK => ?_)
            have HK : Shut _ := hK
            clear hK
            go_simp
            refine HK.out _ _ ?_
            exact ⟨f0, f1, f2, true, f4, f5, f6, f7, f8, f9, rfl, e9, _, _, _, _, _, _, _, _, _, rfl, hB, h0, h1, h2, (fun _ => rfl), h4, h5, h6, h7, h8⟩
          · have un : f4 = false := hun
            clear hun
            have d3 : f3 = true := ready_dep 3 hi (by kernel_rfl)
            have y3 := h3.out d3
            subst y3
            clear hi hne hlt'
            refine wpOp_step rfl (fun K hK => ?_)
            have HK : Shut _ := hK
            clear hK
            go_simp
            refine HK.out _ _ ?_
            exact ⟨f0, f1, f2, f3, true, f5, f6, f7, f8, f9, rfl, e9, _, _, _, _, _, _, _, _, _, rfl, hB, h0, h1, h2, h3, (fun _ => rfl), h5, h6, h7, h8⟩
          · have un : f5 = false := hun
            clear hun
            have d2 : f2 = true := ready_dep 2 hi (by kernel_rfl)
            have y2 := h2.out d2
            subst y2
            have d4 : f4 = true := ready_dep 4 hi (by kernel_rfl)
            have y4 := h4.out d4
            subst y4
            clear hi hne hlt'
            refine wpOp_step rfl (fun K hK => ?_)
            have HK : Shut _ := hK
            clear hK
            go_simp
            refine HK.out _ _ ?_
            exact ⟨f0, f1, f2, f3, f4, true, f6, f7, f8, f9, rfl, e9, _, _, _, _, _, _, _, _, _, rfl, hB, h0, h1, h2, h3, h4, (fun _ => rfl), h6, h7, h8⟩
          · have un : f6 = false := hun
            clear hun
            have d5 : f5 = true := ready_dep 5 hi (by kernel_rfl)
            have y5 := h5.out d5
            subst y5
            clear hi hne hlt'
            refine wpOp_step rfl (fun K hK => ?_)
            have HK : Shut _ := hK
            clear hK
            go_simp
            refine HK.out _ _ ?_
            exact ⟨f0, f1, f2, f3, f4, f5, true, f7, f8, f9, rfl, e9, _, _, _, _, _, _, _, _, _, rfl, hB.on (belAlloc _ (Below.refl _ _)), h0, h1, h2, h3, h4, h5, (fun _ _ => ⟨_, rfl, Cl.new _ _ _⟩), (fun d => let ⟨ao, n, c, e, o⟩ := h7.out d; ⟨ao, n, c, e, ownsRow_below o (belAlloc _ (Below.refl _ _))⟩), h8⟩
          · have un : f7 = false := hun
            clear hun
            have d1 : f1 = true := ready_dep 1 hi (by kernel_rfl)
            have y1 := h1.out d1
            subst y1
            have d6 : f6 = true := ready_dep 6 hi (by kernel_rfl)
            obtain ⟨q6, y6, c6⟩ := h6.out d6 un
            subst y6
            clear hi hne hlt'
            refine wpOp_step rfl (fun K hK => ?_)
            have HK : Shut _ := hK
            clear hK
            refine op1S _ _ rfl bb _ _ rfl (hB.o un) q6 _ _ rfl c6 LS.out hB.z _ LMS.out ?_
            intro ao nn cc w1 P1 Q1 T1 D1
            go_simp
            refine HK.out _ _ ?_
            exact ⟨f0, f1, f2, f3, f4, f5, f6, true, f8, f9, rfl, e9, _, _, _, _, _, _, _, _, _, rfl, hB.grow Q1 T1 D1, h0, h1, h2, h3, h4, h5, (fun _ t => by cases t), (fun _ => ⟨ao, nn, cc, rfl, P1⟩), h8⟩
          · have un : f8 = false := hun
            clear hun
            clear hi hne hlt'
            refine wpOp_step rfl (fun K hK => ?_)
            have HK : Shut _ := hK
            clear hK
            go_simp
            refine HK.out _ _ ?_
            exact ⟨f0, f1, f2, f3, f4, f5, f6, f7, true, f9, rfl, e9, _, _, _, _, _, _, _, _, _, rfl, hB, h0, h1, h2, h3, h4, h5, h6, h7, (fun _ => rfl)⟩
        · intro f a w' hl hJ
          refine JRdS.elim hJ (C := fun f a w' => 9 ∈ Region.ready .any _ f.toArray → wpOp _ _ _ 9 _ a w') ?_
          clear hJ hl f a
          intro f0 f1 f2 f3 f4 f5 f6 f7 f8 f9 x58 x59 x60 x61 x62 x63 x64 x65 x66 e9 hB h0 h1 h2 h3 h4 h5 h6 h7 h8 hi
          have d7 : f7 = true := ready_dep 7 hi (by kernel_rfl)
          obtain ⟨a7, n7, m7, y7, o7⟩ := h7.out d7
          subst y7
          have d8 : f8 = true := ready_dep 8 hi (by kernel_rfl)
          have y8 := h8.out d8
          subst y8
          clear hi
          obtain ⟨i0, i1, i2, i3⟩ := hB.k.four
          obtain ⟨g0, g1, g2, g3⟩ := hB.k.thaw
          refine wpOp_step rfl (fun K hK => ?_)
          have HK : Shut _ := hK
          clear hK
          go_simp
          refine HK.out _ _ ?_
          have ST : Hid (RegCI W bb q ak nk ck a7 n7 m7 (k0 :: out.map (·.2)) (o2.map (·.1)) false (w'.setCell ⟨q, 3, none⟩ (.slice a7 n7 m7)).drew) := ⟨hB.k.set 3 _, (hB.b.setCell (p := ⟨q, 3, none⟩) hq _).drew, own1T o7 hB.k (by decide), fun _ => own1T hB.other hB.k (by decide), by simpa using hB.z⟩
          clear hB o7 h0 h1 h2 h3 h4 h5 h6 h7 h8 LS LMS
          go_upto_region 15 with fail
          clear i0 i1 i2 i3 g0 g1 g2 g3
          generalize (w'.setCell ⟨q, 3, none⟩ (.slice a7 n7 m7)) = w6 at *
          generalize a7 = b5 at *
          generalize n7 = k5 at *
          generalize m7 = d5' at *
          refine region_inv 12 (JRdI W bb q n ak nk ck b5 k5 d5' (k0 :: out.map (·.2)) (o2.map (·.1)) s v4 vv (k0 :: o2.map (·.2)) _ _ _ _ _ _ _ _ _ _ _ _ _ _ _ _ _ _ _ _ _ _ _ _ _ _ _ _ _ _ _ _ _ _ _ _ _ _ _ _ _ _ _ _ _ _ _ _ _ _ _ _ _ _ _ _ _ _ _ _ _ _ _ _ _ _ _ _ _ _ _ _ _ _) (by kernel_rfl) (by kernel_rfl) (by kernel_rfl) ⟨false, false, false, false, false, false, false, false, false, false, false, false, false, rfl, rfl, _, _, _, _, _, _, _, _, _, _, _, _, rfl, ST.out, (fun h => by cases h), (fun h => by cases h), (fun h => by cases h), (fun h => by cases h), (fun h => by cases h), (fun h => by cases h), (fun h => by cases h), (fun h => by cases h), (fun h => by cases h), (fun h => by cases h), (fun h => by cases h), (fun h => by cases h)⟩ ?_ ?_ ?_
          · intro i f a w' hne hl hJ
            refine JRdI.elim hJ (C := fun f a w' => i ∈ Region.ready .any _ f.toArray → wpOp _ _ _ i (fun a' w'' => JRdI W bb q n ak nk ck b5 k5 d5' (k0 :: out.map (·.2)) (o2.map (·.1)) s v4 vv (k0 :: o2.map (·.2)) _ _ _ _ _ _ _ _ _ _ _ _ _ _ _ _ _ _ _ _ _ _ _ _ _ _ _ _ _ _ _ _ _ _ _ _ _ _ _ _ _ _ _ _ _ _ _ _ _ _ _ _ _ _ _ _ _ _ _ _ _ _ _ _ _ _ _ _ _ _ _ _ _ _ (f.set i true) a' w'') a w') ?_
            clear hJ hl f a
            intro f0 f1 f2 f3 f4 f5 f6 f7 f8 f9 f10 f11 f12 x67 x68 x69 x70 x71 x72 x73 x74 x75 x76 x77 x78 e12 hB h0 h1 h2 h3 h4 h5 h6 h7 h8 h9 h10 h11 hi
            obtain ⟨hlt, hun, _⟩ := ready_mem hi
            have hlt' : i < 13 := hlt
            clear hlt
            rcases (by omega : i = 0 ∨ i = 1 ∨ i = 2 ∨ i = 3 ∨ i = 4 ∨ i = 5 ∨ i = 6 ∨ i = 7 ∨ i = 8 ∨ i = 9 ∨ i = 10 ∨ i = 11) with rfl | rfl | rfl | rfl | rfl | rfl | rfl | rfl | rfl | rfl | rfl | rfl
            · have un : f0 = false := hun
              clear hun
              clear hi hne hlt'
              refine wpOp_step rfl (fun K hK => ?_)
              have HK : Shut _ := hK
              clear hK
              go_simp
              refine HK.out _ _ ?_
              exact ⟨true, f1, f2, f3, f4, f5, f6, f7, f8, f9, f10, f11, f12, rfl, e12, _, _, _, _, _, _, _, _, _, _, _, _, rfl, hB, (fun _ => rfl), h1, h2, h3, h4, h5, h6, h7, h8, h9, h10, h11⟩
            · have un : f1 = false := hun
              clear hun
              have d0 : f0 = true := ready_dep 0 hi (by kernel_rfl)
              have y0 := h0.out d0
              subst y0
              clear hi hne hlt'
              obtain ⟨i0, i1, i2, i3⟩ := hB.k.four
              refine wpOp_step rfl (fun K hK => ?_)
              have HK : Shut _ := hK
              clear hK
              go_simp
              refine HK.out _ _ ?_
              exact ⟨f0, true, f2, f3, f4, f5, f6, f7, f8, f9, f10, f11, f12, rfl, e12, _, _, _, _, _, _, _, _, _, _, _, _, rfl, hB, h0, (fun _ => rfl), h2, h3, h4, h5, h6, h7, h8, h9, h10, h11⟩
            · have un : f2 = false := hun
              clear hun
              clear hi hne hlt'
              refine wpOp_step rfl (fun K hK => ?_)
              have HK : Shut _ := hK
              clear hK
              go_simp
              refine HK.out _ _ ?_
              exact ⟨f0, f1, true, f3, f4, f5, f6, f7, f8, f9, f10, f11, f12, rfl, e12, _, _, _, _, _, _, _, _, _, _, _, _, rfl, hB, h0, h1, (fun _ => rfl), h3, h4, h5, h6, h7, h8, h9, h10, h11⟩
            · have un : f3 = false := hun
              clear hun
              clear hi hne hlt'
              refine wpOp_step rfl (fun K hK => ?_)
              have HK : Shut _ := hK
              clear hK
              go_simp
              refine HK.out _ _ ?_
              exact ⟨f0, f1, f2, true, f4, f5, f6, f7, f8, f9, f10, f11, f12, rfl, e12, _, _, _, _, _, _, _, _, _, _, _, _, rfl, hB, h0, h1, h2, (fun _ => rfl), h4, h5, h6, h7, h8, h9, h10, h11⟩
            · have un : f4 = false := hun
              clear hun
              have d3 : f3 = true := ready_dep 3 hi (by kernel_rfl)
              have y3 := h3.out d3
              subst y3
              clear hi hne hlt'
              refine wpOp_step rfl (fun K hK => ?_)
              have HK : Shut _ := hK
              clear hK
              go_simp
              refine HK.out _ _ ?_
              exact ⟨f0, f1, f2, f3, true, f5, f6, f7, f8, f9, f10, f11, f12, rfl, e12, _, _, _, _, _, _, _, _, _, _, _, _, rfl, hB, h0, h1, h2, h3, (fun _ => rfl), h5, h6, h7, h8, h9, h10, h11⟩
            · have un : f5 = false := hun
              clear hun
              clear hi hne hlt'
              refine wpOp_step rfl (fun K hK => ?_)
              have HK : Shut _ := hK
              clear hK
              go_simp
              refine HK.out _ _ ?_
              exact ⟨f0, f1, f2, f3, f4, true, f6, f7, f8, f9, f10, f11, f12, rfl, e12, _, _, _, _, _, _, _, _, _, _, _, _, rfl, hB, h0, h1, h2, h3, h4, (fun _ => rfl), h6, h7, h8, h9, h10, h11⟩
            · have un : f6 = false := hun
              clear hun
              have d5 : f5 = true := ready_dep 5 hi (by kernel_rfl)
              have y5 := h5.out d5
              subst y5
              clear hi hne hlt'
              refine wpOp_step rfl (fun K hK => ?_)
              have HK : Shut _ := hK
              clear hK
              go_simp
              refine HK.out _ _ ?_
              exact ⟨f0, f1, f2, f3, f4, f5, true, f7, f8, f9, f10, f11, f12, rfl, e12, _, _, _, _, _, _, _, _, _, _, _, _, rfl, hB, h0, h1, h2, h3, h4, h5, (fun _ => rfl), h7, h8, h9, h10, h11⟩
            · have un : f7 = false := hun
              clear hun
              have d2 : f2 = true := ready_dep 2 hi (by kernel_rfl)
              have y2 := h2.out d2
              subst y2
              have d4 : f4 = true := ready_dep 4 hi (by kernel_rfl)
              have y4 := h4.out d4
              subst y4
              have d6 : f6 = true := ready_dep 6 hi (by kernel_rfl)
              have y6 := h6.out d6
              subst y6
              clear hi hne hlt'
              refine wpOp_step rfl (fun K hK => ?_)
              have HK : Shut _ := hK
              clear hK
              go_simp
              refine HK.out _ _ ?_
              exact ⟨f0, f1, f2, f3, f4, f5, f6, true, f8, f9, f10, f11, f12, rfl, e12, _, _, _, _, _, _, _, _, _, _, _, _, rfl, hB, h0, h1, h2, h3, h4, h5, h6, (fun _ => rfl), h8, h9, h10, h11⟩
            · have un : f8 = false := hun
              clear hun
              have d7 : f7 = true := ready_dep 7 hi (by kernel_rfl)
              have y7 := h7.out d7
              subst y7
              clear hi hne hlt'
              refine wpOp_step rfl (fun K hK => ?_)
              have HK : Shut _ := hK
              clear hK
              go_simp
              refine Calls.mono (refInt_b v4 w' l4.out vv HV.out) ?_
              rintro e w1 ⟨rfl, b1⟩
              refine HK.out _ _ ?_
              exact ⟨f0, f1, f2, f3, f4, f5, f6, f7, true, f9, f10, f11, f12, rfl, e12, _, _, _, _, _, _, _, _, _, _, _, _, rfl, hB.on b1, h0, h1, h2, h3, h4, h5, h6, h7, (fun _ => rfl), (fun d t => by have e := (h9.out d t).1; rw [un] at e; cases e), (fun d => by have e := (h10.out d).1; rw [un] at e; cases e), h11⟩
            · have un : f9 = false := hun
              clear hun
              have d8 : f8 = true := ready_dep 8 hi (by kernel_rfl)
              have y8 := h8.out d8
              subst y8
              clear hi hne hlt'
              refine wpOp_step rfl (fun K hK => ?_)
              have HK : Shut _ := hK
              clear hK
              go_simp
              refine HK.out _ _ ?_
              exact ⟨f0, f1, f2, f3, f4, f5, f6, f7, f8, true, f10, f11, f12, rfl, e12, _, _, _, _, _, _, _, _, _, _, _, _, rfl, hB.on (belAlloc _ (Below.refl _ _)), h0, h1, h2, h3, h4, h5, h6, h7, h8, (fun _ _ => ⟨d8, _, rfl, Cl.new _ _ _⟩), (fun d => let ⟨n0, ao, n, c, e, o⟩ := h10.out d; ⟨n0, ao, n, c, e, ownsRow_below o (belAlloc _ (Below.refl _ _))⟩), h11⟩
            · have un : f10 = false := hun
              clear hun
              have d1 : f1 = true := ready_dep 1 hi (by kernel_rfl)
              have y1 := h1.out d1
              subst y1
              have d8 : f8 = true := ready_dep 8 hi (by kernel_rfl)
              have y8 := h8.out d8
              subst y8
              have d9 : f9 = true := ready_dep 9 hi (by kernel_rfl)
              obtain ⟨_, q9, y9, c9⟩ := h9.out d9 un
              subst y9
              clear hi hne hlt'
              refine wpOp_step rfl (fun K hK => ?_)
              have HK : Shut _ := hK
              clear hK
              refine op1I _ _ rfl bb _ _ rfl (hB.o un) q9 _ _ rfl c9 LL.out hB.z _ LM.out ?_
              intro ao nn cc w1 P1 Q1 T1 D1
              go_simp
              refine HK.out _ _ ?_
              exact ⟨f0, f1, f2, f3, f4, f5, f6, f7, f8, f9, true, f11, f12, rfl, e12, _, _, _, _, _, _, _, _, _, _, _, _, rfl, hB.grow Q1 T1 D1, h0, h1, h2, h3, h4, h5, h6, h7, h8, (fun _ t => by cases t), (fun _ => ⟨d8, ao, nn, cc, rfl, P1⟩), h11⟩
            · have un : f11 = false := hun
              clear hun
              clear hi hne hlt'
              refine wpOp_step rfl (fun K hK => ?_)
              have HK : Shut _ := hK
              clear hK
              go_simp
              refine HK.out _ _ ?_
              exact ⟨f0, f1, f2, f3, f4, f5, f6, f7, f8, f9, f10, true, f12, rfl, e12, _, _, _, _, _, _, _, _, _, _, _, _, rfl, hB, h0, h1, h2, h3, h4, h5, h6, h7, h8, h9, h10, (fun _ => rfl)⟩
          · intro f a w' hl hJ
            refine JRdI.elim hJ (C := fun f a w' => 12 ∈ Region.ready .any _ f.toArray → wpOp _ _ _ 12 _ a w') ?_
            clear hJ hl f a
            intro f0 f1 f2 f3 f4 f5 f6 f7 f8 f9 f10 f11 f12 x67 x68 x69 x70 x71 x72 x73 x74 x75 x76 x77 x78 e12 hB h0 h1 h2 h3 h4 h5 h6 h7 h8 h9 h10 h11 hi
            have d10 : f10 = true := ready_dep 10 hi (by kernel_rfl)
            obtain ⟨u8, a10, n10, m10, y10, o10⟩ := h10.out d10
            subst y10
            have d11 : f11 = true := ready_dep 11 hi (by kernel_rfl)
            have y11 := h11.out d11
            subst y11
            clear hi
            obtain ⟨i0, i1, i2, i3⟩ := hB.k.four
            obtain ⟨g0, g1, g2, g3⟩ := hB.k.thaw
            refine wpOp_step rfl (fun K hK => ?_)
            have HK : Shut _ := hK
            clear hK
            go_simp
            refine HK.out _ _ ?_
            have KQ9 : Aside (Cl (w'.setCell ⟨q, 2, none⟩ (.slice a10 n10 m10)) q #[.bool false, .slice none 0 0, .slice a10 n10 m10, .slice b5 k5 d5'] 30) := hB.k.set 2 _
            have S9 : Aside (OwnS bb (w'.setCell ⟨q, 2, none⟩ (.slice a10 n10 m10)) (.slice b5 k5 d5') (o2.map (·.1))) := own1T hB.other hB.k (by decide)
            have I9 : Aside (OwnI bb (w'.setCell ⟨q, 2, none⟩ (.slice a10 n10 m10)) (.slice a10 n10 m10) (k0 :: o2.map (·.2))) := own1T o10 hB.k (by decide)
            have B9 : Hid (Below bb W (w'.setCell ⟨q, 2, none⟩ (.slice a10 n10 m10))) := hB.b.setCell (p := ⟨q, 2, none⟩) hq _
            clear hB o10 h0 h1 h2 h3 h4 h5 h6 h7 h8 h9 h10 h11
            go_upto_region 16 with fail
            clear i0 i1 i2 i3 g0 g1 g2 g3
            generalize (w'.setCell ⟨q, 2, none⟩ (.slice a10 n10 m10)) = w9 at *
            go_wp2
            go_roundg s2.size
            case measure => omega
            case rel => exact ⟨a10, n10, m10, b5, k5, d5', o2, s2, rfl, Nat.le_refl _, by omega, HZ2, HD2, KQ9, I9, S9, B9⟩
          · rintro f a w' ⟨f0, f1, f2, f3, f4, f5, f6, f7, f8, f9, f10, f11, f12, rfl, rfl, _⟩
            rfl
        · rintro f a w' ⟨f0, f1, f2, f3, f4, f5, f6, f7, f8, f9, rfl, rfl, _⟩
          rfl

theorem rndecode_any (kind : Int) (S : ByteArray) (w : World) (hS : S.size ≤ maxLen) : Calls Try.prog 19 #[.int .u8 kind, .string S] w (GvE w kind S.data.toList) := by
  by_cases h : 240 < S.size
  · exact rdec_long kind S w hS h
  · by_cases h1 : kind = 1
    · subst h1
      exact rdec_leaf S w hS (by omega)
    · by_cases h2 : kind = 2
      · subst h2
        by_cases h3 : S.size < 4
        · exact rdec_few S w hS h3
        · exact rdec_inner S w hS (by omega) (by omega)
      · exact rdec_other kind S w hS (by omega) h1 h2

end Go.Proofs.Ytmamnlphhiaeoaa

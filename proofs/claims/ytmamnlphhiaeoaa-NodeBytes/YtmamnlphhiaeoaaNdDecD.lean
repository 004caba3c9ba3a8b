/-
  The walk of package node's Decode.
-/
import Derived.Test.YtmamnlphhiaeoaaNdDecI
namespace Go.Proofs.Ytmamnlphhiaeoaa
open Go.Shelf Go.RowKit Go.Lib Go.Sort

set_option maxHeartbeats 4000000 in
set_option maxRecDepth 100000 in
theorem decode_long (kind : Int) (S : ByteArray) (w : World) (hS0 : S.size ≤ maxLen) (hS : 240 < S.size) : Calls Try.prog 18 #[.int .u8 kind, .string S] w (GvD w kind S.data.toList) := by
  unfold maxLen at hS0
  have BW : Below w.heap.size w (w.alloc (.cells #[.bool false, .slice none 0 0, .slice none 0 0, .slice none 0 0] 26)) := belAlloc _ (Below.refl _ _)
  have K1 : Cl (w.alloc (.cells #[.bool false, .slice none 0 0, .slice none 0 0, .slice none 0 0] 26)) w.heap.size #[.bool false, .slice none 0 0, .slice none 0 0, .slice none 0 0] 26 := Cl.new0 _ _ _
  have sz : w.heap.size < (w.alloc (.cells #[.bool false, .slice none 0 0, .slice none 0 0, .slice none 0 0] 26)).heap.size := by simp
  go_enter Try.func18, Try.ntmps18
  go_upto_region 1 with fail
  generalize (w.alloc (.cells #[.bool false, .slice none 0 0, .slice none 0 0, .slice none 0 0] 26)) = W at *
  obtain ⟨p, hp⟩ : ∃ p, w.heap.size = p := ⟨_, rfl⟩
  have HP : Hid (w.heap.size = p) := hp
  rw [hp] at K1 BW sz ⊢
  clear hp
  obtain ⟨r1, r2⟩ := deR_none (deN_long (k := kind) (s := S.data.toList) (by rw [← Lib.size_eq]; exact hS))
  have R1 : Hid _ := r1
  have R2 : Hid _ := r2
  clear r1 r2
  have hSz : (240 : Int) < (S.size : Int) := by omega
  obtain ⟨c0, c1, c2, c3⟩ := K1.four
  obtain ⟨g0, g1, g2, g3⟩ := K1.thaw
  have KX : Cl ((((W.setCell ⟨p, 0, none⟩ (.bool false)).setCell ⟨p, 1, none⟩ (.slice none 0 0)).setCell ⟨p, 2, none⟩ (.slice none 0 0)).setCell ⟨p, 3, none⟩ (.slice none 0 0)) p #[.bool false, .slice none 0 0, .slice none 0 0, .slice none 0 0] 26 := K1.set4 _ _ _ _
  have BX : Hid (Below p w ((((W.setCell ⟨p, 0, none⟩ (.bool false)).setCell ⟨p, 1, none⟩ (.slice none 0 0)).setCell ⟨p, 2, none⟩ (.slice none 0 0)).setCell ⟨p, 3, none⟩ (.slice none 0 0))) := belSet4 BW (Nat.le_refl _)
  clear K1 BW
  go_wp2
  (try simp only [Exit.inBlock, Exit.then])
  clear c0 c1 c2 c3 g0 g1 g2 g3
  generalize ((((W.setCell ⟨p, 0, none⟩ (.bool false)).setCell ⟨p, 1, none⟩ (.slice none 0 0)).setCell ⟨p, 2, none⟩ (.slice none 0 0)).setCell ⟨p, 3, none⟩ (.slice none 0 0)) = X at *
  obtain ⟨k0, k1, k2, k3⟩ := KX.four
  refine bodyPost_ret (v := .tuple #[.agg #[.bool false, .slice none 0 0, .slice none 0 0, .slice none 0 0], .int .i64 3]) ?_ rfl ⟨_, _, _, by rw [R1.out, R2.out]; rfl, by rw [R1.out]; exact NdW.zero _ _, by rw [HP.out]; exact BX.out⟩
  rw [results_ct rfl]
  go_simp

set_option maxHeartbeats 4000000 in
set_option maxRecDepth 100000 in
theorem decode_other (kind : Int) (S : ByteArray) (w : World) (hS0 : S.size ≤ maxLen) (hS : S.size ≤ 240) (h1 : kind ≠ 1) (h2 : kind ≠ 2) : Calls Try.prog 18 #[.int .u8 kind, .string S] w (GvD w kind S.data.toList) := by
  unfold maxLen at hS0
  have BW : Below w.heap.size w (w.alloc (.cells #[.bool false, .slice none 0 0, .slice none 0 0, .slice none 0 0] 26)) := belAlloc _ (Below.refl _ _)
  have K1 : Cl (w.alloc (.cells #[.bool false, .slice none 0 0, .slice none 0 0, .slice none 0 0] 26)) w.heap.size #[.bool false, .slice none 0 0, .slice none 0 0, .slice none 0 0] 26 := Cl.new0 _ _ _
  have sz : w.heap.size < (w.alloc (.cells #[.bool false, .slice none 0 0, .slice none 0 0, .slice none 0 0] 26)).heap.size := by simp
  go_enter Try.func18, Try.ntmps18
  go_upto_region 1 with fail
  generalize (w.alloc (.cells #[.bool false, .slice none 0 0, .slice none 0 0, .slice none 0 0] 26)) = W at *
  obtain ⟨p, hp⟩ : ∃ p, w.heap.size = p := ⟨_, rfl⟩
  have HP : Hid (w.heap.size = p) := hp
  rw [hp] at K1 BW sz ⊢
  clear hp
  obtain ⟨r1, r2⟩ := deR_none (deN_other (s := S.data.toList) h1 h2)
  have R1 : Hid _ := r1
  have R2 : Hid _ := r2
  clear r1 r2
  have hSz : ¬ (240 : Int) < (S.size : Int) := by omega
  have e1 : (kind == 1) = false := beq_eq_false_iff_ne.2 h1
  have e2 : (kind == 2) = false := beq_eq_false_iff_ne.2 h2
  obtain ⟨c0, c1, c2, c3⟩ := K1.four
  obtain ⟨g0, g1, g2, g3⟩ := K1.thaw
  have KX : Cl ((((W.setCell ⟨p, 0, none⟩ (.bool false)).setCell ⟨p, 1, none⟩ (.slice none 0 0)).setCell ⟨p, 2, none⟩ (.slice none 0 0)).setCell ⟨p, 3, none⟩ (.slice none 0 0)) p #[.bool false, .slice none 0 0, .slice none 0 0, .slice none 0 0] 26 := K1.set4 _ _ _ _
  have BX : Hid (Below p w ((((W.setCell ⟨p, 0, none⟩ (.bool false)).setCell ⟨p, 1, none⟩ (.slice none 0 0)).setCell ⟨p, 2, none⟩ (.slice none 0 0)).setCell ⟨p, 3, none⟩ (.slice none 0 0))) := belSet4 BW (Nat.le_refl _)
  clear K1 BW
  go_wp2
  (try simp only [Exit.inBlock, Exit.then])
  clear c0 c1 c2 c3 g0 g1 g2 g3
  generalize ((((W.setCell ⟨p, 0, none⟩ (.bool false)).setCell ⟨p, 1, none⟩ (.slice none 0 0)).setCell ⟨p, 2, none⟩ (.slice none 0 0)).setCell ⟨p, 3, none⟩ (.slice none 0 0)) = X at *
  obtain ⟨k0, k1, k2, k3⟩ := KX.four
  refine bodyPost_ret (v := .tuple #[.agg #[.bool false, .slice none 0 0, .slice none 0 0, .slice none 0 0], .int .i64 3]) ?_ rfl ⟨_, _, _, by rw [R1.out, R2.out]; rfl, by rw [R1.out]; exact NdW.zero _ _, by rw [HP.out]; exact BX.out⟩
  rw [results_ct rfl]
  go_simp

set_option maxHeartbeats 4000000 in
set_option maxRecDepth 100000 in
theorem decode_leaf (kind : Int) (S : ByteArray) (w : World) (hS0 : S.size ≤ maxLen) (hk : kind = 1) (hS : S.size ≤ 240) : Calls Try.prog 18 #[.int .u8 kind, .string S] w (GvD w kind S.data.toList) := by
  unfold maxLen at hS0
  have BW : Below w.heap.size w (w.alloc (.cells #[.bool false, .slice none 0 0, .slice none 0 0, .slice none 0 0] 26)) := belAlloc _ (Below.refl _ _)
  have K1 : Cl (w.alloc (.cells #[.bool false, .slice none 0 0, .slice none 0 0, .slice none 0 0] 26)) w.heap.size #[.bool false, .slice none 0 0, .slice none 0 0, .slice none 0 0] 26 := Cl.new0 _ _ _
  have sz : w.heap.size < (w.alloc (.cells #[.bool false, .slice none 0 0, .slice none 0 0, .slice none 0 0] 26)).heap.size := by simp
  subst hk
  have C : Hid _ := leafOf_any S (w.alloc (.cells #[.bool false, .slice none 0 0, .slice none 0 0, .slice none 0 0] 26)) hS
  go_enter Try.func18, Try.ntmps18
  go_upto_region 1 with fail
  generalize (w.alloc (.cells #[.bool false, .slice none 0 0, .slice none 0 0, .slice none 0 0] 26)) = W at *
  have hSz : ¬ (240 : Int) < (S.size : Int) := by omega
  obtain ⟨p, hp⟩ : ∃ p, w.heap.size = p := ⟨_, rfl⟩
  have HP : Hid (w.heap.size = p) := hp
  rw [hp] at K1 BW sz ⊢
  clear hp
  go_wp2_with fail
  refine Calls.mono C.out ?_
  rintro e w1 ⟨ve, vk, vs, rfl, o1, b1⟩
  clear C
  obtain ⟨dn, hdn⟩ : ∃ x, deR 1 S.data.toList = x := ⟨_, rfl⟩
  have HD : Hid _ := hdn
  rw [hdn] at o1
  simp only [hdn]
  clear hdn
  obtain ⟨er, her⟩ : ∃ x, deE2 (deO 1 S.data.toList) = x := ⟨_, rfl⟩
  have ER : Hid (deE2 (deO 1 S.data.toList) = er) := her
  simp only [her]
  clear her
  obtain ⟨ae, ce, rfl, _⟩ := rowShape o1.r.e
  obtain ⟨ak, ck, rfl, _⟩ := rowShape o1.r.k
  obtain ⟨az, cz, rfl, _⟩ := rowShape o1.r.s
  have K2 := K1.on b1
  obtain ⟨c0, c1, c2, c3⟩ := K2.four
  obtain ⟨g0, g1, g2, g3⟩ := K2.thaw
  have KX : Cl ((((w1.setCell ⟨p, 0, none⟩ (.bool dn.leaf)).setCell ⟨p, 1, none⟩ (.slice ae dn.es.length ce)).setCell ⟨p, 2, none⟩ (.slice ak dn.ks.length ck)).setCell ⟨p, 3, none⟩ (.slice az dn.ss.length cz)) p #[.bool dn.leaf, .slice ae dn.es.length ce, .slice ak dn.ks.length ck, .slice az dn.ss.length cz] 26 := K2.set4 _ _ _ _
  have BX : Hid (Below p w ((((w1.setCell ⟨p, 0, none⟩ (.bool dn.leaf)).setCell ⟨p, 1, none⟩ (.slice ae dn.es.length ce)).setCell ⟨p, 2, none⟩ (.slice ak dn.ks.length ck)).setCell ⟨p, 3, none⟩ (.slice az dn.ss.length cz))) := belSet4 (BW.trans (b1.mono (by omega))) (Nat.le_refl _)
  have OX : Hid (NdW p ((((w1.setCell ⟨p, 0, none⟩ (.bool dn.leaf)).setCell ⟨p, 1, none⟩ (.slice ae dn.es.length ce)).setCell ⟨p, 2, none⟩ (.slice ak dn.ks.length ck)).setCell ⟨p, 3, none⟩ (.slice az dn.ss.length cz)) (.slice ae dn.es.length ce) (.slice ak dn.ks.length ck) (.slice az dn.ss.length cz) dn) := (NdW.set4 o1 sz).mono (by omega)
  clear K1 K2 BW o1 b1
  go_wp2
  (try simp only [Exit.inBlock, Exit.then])
  clear c0 c1 c2 c3 g0 g1 g2 g3
  generalize ((((w1.setCell ⟨p, 0, none⟩ (.bool dn.leaf)).setCell ⟨p, 1, none⟩ (.slice ae dn.es.length ce)).setCell ⟨p, 2, none⟩ (.slice ak dn.ks.length ck)).setCell ⟨p, 3, none⟩ (.slice az dn.ss.length cz)) = X at *
  obtain ⟨k0, k1, k2, k3⟩ := KX.four
  refine bodyPost_ret (v := .tuple #[.agg #[.bool dn.leaf, .slice ae dn.es.length ce, .slice ak dn.ks.length ck, .slice az dn.ss.length cz], .int .i64 er]) ?_ rfl ⟨_, _, _, by rw [HD.out, ER.out], by rw [HD.out, HP.out]; exact OX.out, by rw [HP.out]; exact BX.out⟩
  rw [results_ct rfl]
  go_simp

set_option maxHeartbeats 4000000 in
set_option maxRecDepth 100000 in
theorem decode_inner (kind : Int) (S : ByteArray) (w : World) (hS0 : S.size ≤ maxLen) (hk : kind = 2) (hS : S.size ≤ 240) : Calls Try.prog 18 #[.int .u8 kind, .string S] w (GvD w kind S.data.toList) := by
  unfold maxLen at hS0
  have BW : Below w.heap.size w (w.alloc (.cells #[.bool false, .slice none 0 0, .slice none 0 0, .slice none 0 0] 26)) := belAlloc _ (Below.refl _ _)
  have K1 : Cl (w.alloc (.cells #[.bool false, .slice none 0 0, .slice none 0 0, .slice none 0 0] 26)) w.heap.size #[.bool false, .slice none 0 0, .slice none 0 0, .slice none 0 0] 26 := Cl.new0 _ _ _
  have sz : w.heap.size < (w.alloc (.cells #[.bool false, .slice none 0 0, .slice none 0 0, .slice none 0 0] 26)).heap.size := by simp
  subst hk
  have C : Hid _ := innerOf_any S (w.alloc (.cells #[.bool false, .slice none 0 0, .slice none 0 0, .slice none 0 0] 26)) hS
  go_enter Try.func18, Try.ntmps18
  go_upto_region 1 with fail
  generalize (w.alloc (.cells #[.bool false, .slice none 0 0, .slice none 0 0, .slice none 0 0] 26)) = W at *
  have hSz : ¬ (240 : Int) < (S.size : Int) := by omega
  obtain ⟨p, hp⟩ : ∃ p, w.heap.size = p := ⟨_, rfl⟩
  have HP : Hid (w.heap.size = p) := hp
  rw [hp] at K1 BW sz ⊢
  clear hp
  go_wp2_with fail
  refine Calls.mono C.out ?_
  rintro e w1 ⟨ve, vk, vs, rfl, o1, b1⟩
  clear C
  obtain ⟨dn, hdn⟩ : ∃ x, deR 2 S.data.toList = x := ⟨_, rfl⟩
  have HD : Hid _ := hdn
  rw [hdn] at o1
  simp only [hdn]
  clear hdn
  obtain ⟨er, her⟩ : ∃ x, deE2 (deO 2 S.data.toList) = x := ⟨_, rfl⟩
  have ER : Hid (deE2 (deO 2 S.data.toList) = er) := her
  simp only [her]
  clear her
  obtain ⟨ae, ce, rfl, _⟩ := rowShape o1.r.e
  obtain ⟨ak, ck, rfl, _⟩ := rowShape o1.r.k
  obtain ⟨az, cz, rfl, _⟩ := rowShape o1.r.s
  have K2 := K1.on b1
  obtain ⟨c0, c1, c2, c3⟩ := K2.four
  obtain ⟨g0, g1, g2, g3⟩ := K2.thaw
  have KX : Cl ((((w1.setCell ⟨p, 0, none⟩ (.bool dn.leaf)).setCell ⟨p, 1, none⟩ (.slice ae dn.es.length ce)).setCell ⟨p, 2, none⟩ (.slice ak dn.ks.length ck)).setCell ⟨p, 3, none⟩ (.slice az dn.ss.length cz)) p #[.bool dn.leaf, .slice ae dn.es.length ce, .slice ak dn.ks.length ck, .slice az dn.ss.length cz] 26 := K2.set4 _ _ _ _
  have BX : Hid (Below p w ((((w1.setCell ⟨p, 0, none⟩ (.bool dn.leaf)).setCell ⟨p, 1, none⟩ (.slice ae dn.es.length ce)).setCell ⟨p, 2, none⟩ (.slice ak dn.ks.length ck)).setCell ⟨p, 3, none⟩ (.slice az dn.ss.length cz))) := belSet4 (BW.trans (b1.mono (by omega))) (Nat.le_refl _)
  have OX : Hid (NdW p ((((w1.setCell ⟨p, 0, none⟩ (.bool dn.leaf)).setCell ⟨p, 1, none⟩ (.slice ae dn.es.length ce)).setCell ⟨p, 2, none⟩ (.slice ak dn.ks.length ck)).setCell ⟨p, 3, none⟩ (.slice az dn.ss.length cz)) (.slice ae dn.es.length ce) (.slice ak dn.ks.length ck) (.slice az dn.ss.length cz) dn) := (NdW.set4 o1 sz).mono (by omega)
  clear K1 K2 BW o1 b1
  go_wp2
  (try simp only [Exit.inBlock, Exit.then])
  clear c0 c1 c2 c3 g0 g1 g2 g3
  generalize ((((w1.setCell ⟨p, 0, none⟩ (.bool dn.leaf)).setCell ⟨p, 1, none⟩ (.slice ae dn.es.length ce)).setCell ⟨p, 2, none⟩ (.slice ak dn.ks.length ck)).setCell ⟨p, 3, none⟩ (.slice az dn.ss.length cz)) = X at *
  obtain ⟨k0, k1, k2, k3⟩ := KX.four
  refine bodyPost_ret (v := .tuple #[.agg #[.bool dn.leaf, .slice ae dn.es.length ce, .slice ak dn.ks.length ck, .slice az dn.ss.length cz], .int .i64 er]) ?_ rfl ⟨_, _, _, by rw [HD.out, ER.out], by rw [HD.out, HP.out]; exact OX.out, by rw [HP.out]; exact BX.out⟩
  rw [results_ct rfl]
  go_simp

theorem ndecode_any (kind : Int) (S : ByteArray) (w : World) (hS : S.size ≤ maxLen) : Calls Try.prog 18 #[.int .u8 kind, .string S] w (GvD w kind S.data.toList) := by
  by_cases h : 240 < S.size
  · exact decode_long kind S w hS h
  · by_cases h1 : kind = 1
    · exact decode_leaf kind S w hS h1 (by omega)
    · by_cases h2 : kind = 2
      · exact decode_inner kind S w hS h2 (by omega)
      · exact decode_other kind S w hS (by omega) h1 h2

end Go.Proofs.Ytmamnlphhiaeoaa

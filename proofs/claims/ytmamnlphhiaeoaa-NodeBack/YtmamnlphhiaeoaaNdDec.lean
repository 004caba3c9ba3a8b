/-
  The walks of package node's leafOf, innerOf and Decode.
-/
import Derived.Test.YtmamnlphhiaeoaaNdDecK
import Derived.Test.YtmamnlphhiaeoaaNdRt
import Derived.Deep.RegionHeld3
namespace Go.Proofs.Ytmamnlphhiaeoaa
open Go.Shelf Go.RowKit Go.Lib Go.Sort

theorem rdBytes_fst (s : ByteArray) (e n : Int) : (rdBytes s e n).1.size ≤ s.size := by
  unfold rdBytes
  split
  · simp
  · split
    · simp
    · split
      · simp
      · simp
        omega
theorem rdText_fst (s : ByteArray) (e : Int) : (rdText s e).1.size ≤ s.size := Nat.le_trans (rdBytes_fst _ _ _) (rdInt_size _ _ _)

set_option maxHeartbeats 4000000 in
set_option maxRecDepth 100000 in
theorem leafOf_any (S : ByteArray) (w : World) (hS : S.size ≤ 240) : Calls Try.prog 40 #[.string S] w (GvD w 1 S.data.toList) := by
  have BW : Below w.heap.size w (w.alloc (.cells #[.bool false, .slice none 0 0, .slice none 0 0, .slice none 0 0] 26)) := belAlloc _ (Below.refl _ _)
  have K1 : Cl (w.alloc (.cells #[.bool false, .slice none 0 0, .slice none 0 0, .slice none 0 0] 26)) w.heap.size #[.bool false, .slice none 0 0, .slice none 0 0, .slice none 0 0] 26 := Cl.new0 _ _ _
  have C : Hid _ := decode_any S (w.alloc (.cells #[.bool false, .slice none 0 0, .slice none 0 0, .slice none 0 0] 26)) (by omega)
  have DN := deN_one (s := S.data.toList) (by rw [← Lib.size_eq]; exact hS)
  go_enter Try.func40, Try.ntmps40
  go_upto_region 1 with fail
  have sz : (w.alloc (.cells #[.bool false, .slice none 0 0, .slice none 0 0, .slice none 0 0] 26)).heap.size = w.heap.size + 1 := by simp
  generalize w.alloc (.cells #[.bool false, .slice none 0 0, .slice none 0 0, .slice none 0 0] 26) = W at *
  obtain ⟨p, hp⟩ : ∃ p, w.heap.size = p := ⟨_, rfl⟩
  have HP : Hid (w.heap.size = p) := hp
  rw [hp] at K1 BW sz ⊢
  clear hp
  have SZ : Hid _ := sz
  clear sz
  cases hb : deB S.data.toList with
  | true =>
    rw [hb] at C
    rw [hb, if_pos rfl] at DN
    obtain ⟨r1, r2⟩ := deR_some DN
    have R1 : Hid _ := r1
    have R2 : Hid _ := r2
    clear r1 r2 DN hb
    go_wp2_with fail
    refine Calls.mono C.out ?_
    rintro e w1 ⟨v', rfl, o1, b1⟩
    clear C
    generalize deL S.data.toList = l at *
    obtain ⟨ae, ce, rfl, _⟩ := rowShape o1.row
    have K2 := K1.on b1
    obtain ⟨c0, c1, c2, c3⟩ := K2.four
    obtain ⟨g0, g1, g2, g3⟩ := K2.thaw
    have KX : Cl ((((w1.setCell ⟨p, 0, none⟩ (.bool true)).setCell ⟨p, 1, none⟩ (.slice ae l.length ce)).setCell ⟨p, 2, none⟩ (.slice none 0 0)).setCell ⟨p, 3, none⟩ (.slice none 0 0)) p #[.bool true, .slice ae l.length ce, .slice none 0 0, .slice none 0 0] 26 := K2.set4 _ _ _ _
    have BX : Hid (Below p w ((((w1.setCell ⟨p, 0, none⟩ (.bool true)).setCell ⟨p, 1, none⟩ (.slice ae l.length ce)).setCell ⟨p, 2, none⟩ (.slice none 0 0)).setCell ⟨p, 3, none⟩ (.slice none 0 0))) := belSet4 (BW.trans (b1.mono (by have := SZ.out; omega))) (Nat.le_refl _)
    have OX : Hid (NdW p ((((w1.setCell ⟨p, 0, none⟩ (.bool true)).setCell ⟨p, 1, none⟩ (.slice ae l.length ce)).setCell ⟨p, 2, none⟩ (.slice none 0 0)).setCell ⟨p, 3, none⟩ (.slice none 0 0)) (.slice ae l.length ce) (.slice none 0 0) (.slice none 0 0) ⟨true, l, [], []⟩) := by
      have := NdW.set4 (q := p) (a := .bool true) (b := .slice ae l.length ce) (c := .slice none 0 0) (d := .slice none 0 0) (⟨o1, Own.nil, Own.nil⟩ : NdW W.heap.size w1 (.slice ae l.length ce) (.slice none 0 0) (.slice none 0 0) ⟨true, l, [], []⟩) (by have := SZ.out; omega)
      exact this.mono (by have := SZ.out; omega)
    clear K1 K2 o1 b1 BW
    go_wp2
    (try simp only [Exit.inBlock, Exit.then])
    clear c0 c1 c2 c3 g0 g1 g2 g3
    generalize ((((w1.setCell ⟨p, 0, none⟩ (.bool true)).setCell ⟨p, 1, none⟩ (.slice ae l.length ce)).setCell ⟨p, 2, none⟩ (.slice none 0 0)).setCell ⟨p, 3, none⟩ (.slice none 0 0)) = X at *
    obtain ⟨k0, k1, k2, k3⟩ := KX.four
    refine bodyPost_ret (v := .tuple #[.agg #[.bool true, .slice ae l.length ce, .slice none 0 0, .slice none 0 0], .int .i64 0]) ?_ rfl ⟨_, _, _, by rw [R1.out, R2.out]; rfl, by rw [R1.out, HP.out]; exact OX.out, by rw [HP.out]; exact BX.out⟩
    rw [results_ct rfl]
    go_simp
  | false =>
    rw [hb] at C
    rw [hb, if_neg (by simp)] at DN
    obtain ⟨r1, r2⟩ := deR_none DN
    have R1 : Hid _ := r1
    have R2 : Hid _ := r2
    clear r1 r2 DN hb
    go_wp2_with fail
    refine Calls.mono C.out ?_
    rintro e w1 ⟨v', rfl, o1, b1⟩
    clear C
    obtain ⟨ae, ce, rfl, _⟩ := rowShape o1.row
    have K2 := K1.on b1
    obtain ⟨c0, c1, c2, c3⟩ := K2.four
    obtain ⟨g0, g1, g2, g3⟩ := K2.thaw
    have KX : Cl ((((w1.setCell ⟨p, 0, none⟩ (.bool false)).setCell ⟨p, 1, none⟩ (.slice none 0 0)).setCell ⟨p, 2, none⟩ (.slice none 0 0)).setCell ⟨p, 3, none⟩ (.slice none 0 0)) p #[.bool false, .slice none 0 0, .slice none 0 0, .slice none 0 0] 26 := K2.set4 _ _ _ _
    have BX : Hid (Below p w ((((w1.setCell ⟨p, 0, none⟩ (.bool false)).setCell ⟨p, 1, none⟩ (.slice none 0 0)).setCell ⟨p, 2, none⟩ (.slice none 0 0)).setCell ⟨p, 3, none⟩ (.slice none 0 0))) := belSet4 (BW.trans (b1.mono (by have := SZ.out; omega))) (Nat.le_refl _)
    clear K1 K2 o1 b1 BW
    go_wp2
    (try simp only [Exit.inBlock, Exit.then])
    clear c0 c1 c2 c3 g0 g1 g2 g3
    generalize ((((w1.setCell ⟨p, 0, none⟩ (.bool false)).setCell ⟨p, 1, none⟩ (.slice none 0 0)).setCell ⟨p, 2, none⟩ (.slice none 0 0)).setCell ⟨p, 3, none⟩ (.slice none 0 0)) = X at *
    obtain ⟨k0, k1, k2, k3⟩ := KX.four
    refine bodyPost_ret (v := .tuple #[.agg #[.bool false, .slice none 0 0, .slice none 0 0, .slice none 0 0], .int .i64 3]) ?_ rfl ⟨_, _, _, by rw [R1.out, R2.out]; rfl, by rw [R1.out]; exact NdW.zero _ _, by rw [HP.out]; exact BX.out⟩
    rw [results_ct rfl]
    go_simp

end Go.Proofs.Ytmamnlphhiaeoaa

/-
  The walks of rootslot.Decode and rootslot.Pick.
-/
import Derived.Test.YtalljfckjkbieaaDoorRsEnc
import Derived.Test.YtalljfckjkbieaaDoorPgOpen
namespace Go.Proofs.YtalljfckjkbieaaDoor
open Go.RowKit

theorem ret_dec {a b : Rt} {x y : Bool} (h : a = b) (k : x = y) : Ending.returned (.tuple #[rtV a, .bool x]) = .returned (.tuple #[rtV b, .bool y]) := by rw [h, k]

set_option maxRecDepth 100000 in
set_option maxHeartbeats 1000000 in
theorem dec_yes (s : ByteArray) (hs : s.size ≤ maxLen) (w : World) (T : Tab w) (h1 : (rdP s).ok = true) (h2 : (⟨(slotL (rdP s)).toArray⟩ : ByteArray) = s) : Calls Tryd.prog 12 #[.string s] w fun e w' => e = .returned (.tuple #[rtV (rdP s), .bool true]) ∧ Below w.heap.size w w' := by
  have TAB : Hid (Tab w) := T
  have C0 : Hid (∀ u, Calls Tryd.prog 29 #[.string s] u fun e w' => e = .returned (rtV (rdP s)) ∧ Below u.heap.size u w') := fun u => rdroot_any s hs u
  have C1 : Hid (∀ u, Tab u → Calls Tryd.prog 10 #[rtV (rdP s)] u fun e w' => e = .returned (.tuple #[.string s, .int .i64 0]) ∧ Below u.heap.size u w') := fun u hu => by
    have := enc_yes h1 u hu
    rw [h2] at this
    exact this
  clear T hs h1 h2
  generalize rdP s = r at *
  obtain ⟨n0, n1, n2, n3, n4⟩ := r
  unfold rtV at *
  (try unfold rt0 at *)
  dsimp only at *
  go_enter Tryd.func12, Tryd.ntmps12
  go_wp2_with fail
  have N4 : Hid (Cl (w.alloc (.cells #[.int .i64 0, .int .i64 0, .int .i64 0, .int .i64 0, .int .i64 0] 23)) w.heap.size #[.int .i64 0, .int .i64 0, .int .i64 0, .int .i64 0, .int .i64 0] 23) := Cl.new w #[.int .i64 0, .int .i64 0, .int .i64 0, .int .i64 0, .int .i64 0] 23
  have B3 : Hid (Below w.heap.size w (w.alloc (.cells #[.int .i64 0, .int .i64 0, .int .i64 0, .int .i64 0, .int .i64 0] 23))) := (Below.refl _ _).alloc (Nat.le_refl _) _
  have L5 : Hid (w.heap.size ≤ w.heap.size) := Nat.le_refl _
  generalize w.alloc (.cells #[.int .i64 0, .int .i64 0, .int .i64 0, .int .i64 0, .int .i64 0] 23) = v1 at *
  refine Calls.mono (C0.out _) ?_
  rintro e v6 ⟨rfl, b7⟩
  have N9 : Hid (Cl v6 w.heap.size #[.int .i64 0, .int .i64 0, .int .i64 0, .int .i64 0, .int .i64 0] 23) := Cl.on N4.out b7
  have B8 : Hid (Below w.heap.size w v6) := B3.out.trans (b7.mono B3.out.size)
  clear b7 N4 B3
  go_wp2_with fail
  have N13 : Hid (Cl (v6.alloc (.cells #[.int .i64 n0, .int .i64 n1, .int .i64 n2, .int .i64 n3, .int .i64 n4] 23)) v6.heap.size #[.int .i64 n0, .int .i64 n1, .int .i64 n2, .int .i64 n3, .int .i64 n4] 23) := Cl.new v6 #[.int .i64 n0, .int .i64 n1, .int .i64 n2, .int .i64 n3, .int .i64 n4] 23
  have B12 : Hid (Below w.heap.size w (v6.alloc (.cells #[.int .i64 n0, .int .i64 n1, .int .i64 n2, .int .i64 n3, .int .i64 n4] 23))) := B8.out.alloc B8.out.size _
  have L14 : Hid (w.heap.size ≤ v6.heap.size) := B8.out.size
  have N15 : Hid (Cl (v6.alloc (.cells #[.int .i64 n0, .int .i64 n1, .int .i64 n2, .int .i64 n3, .int .i64 n4] 23)) w.heap.size #[.int .i64 0, .int .i64 0, .int .i64 0, .int .i64 0, .int .i64 0] 23) := Cl.alloc N9.out _
  clear N9 B8
  generalize v6.alloc (.cells #[.int .i64 n0, .int .i64 n1, .int .i64 n2, .int .i64 n3, .int .i64 n4] 23) = v10 at *
  generalize v6.heap.size = q11 at *
  refine Calls.mono (C1.out _ (TAB.out.below B12.out)) ?_
  rintro e v16 ⟨rfl, b17⟩
  have N19 : Hid (Cl v16 w.heap.size #[.int .i64 0, .int .i64 0, .int .i64 0, .int .i64 0, .int .i64 0] 23) := Cl.on N15.out b17
  have N20 : Hid (Cl v16 q11 #[.int .i64 n0, .int .i64 n1, .int .i64 n2, .int .i64 n3, .int .i64 n4] 23) := Cl.on N13.out b17
  have B18 : Hid (Below w.heap.size w v16) := B12.out.trans (b17.mono B12.out.size)
  clear b17 N15 N13 B12
  obtain ⟨c21_0, c21_1, c21_2, c21_3, c21_4⟩ := N20.out.five
  obtain ⟨c22_0, c22_1, c22_2, c22_3, c22_4⟩ := N19.out.five
  have g23_0 := N19.out.frozen 0
  have g23_1 := N19.out.frozen 1
  have g23_2 := N19.out.frozen 2
  have g23_3 := N19.out.frozen 3
  have g23_4 := N19.out.frozen 4
  have N26 : Hid (Cl (((((v16.setCell ⟨w.heap.size, 0, none⟩ (.int .i64 n0)).setCell ⟨w.heap.size, 1, none⟩ (.int .i64 n1)).setCell ⟨w.heap.size, 2, none⟩ (.int .i64 n2)).setCell ⟨w.heap.size, 3, none⟩ (.int .i64 n3)).setCell ⟨w.heap.size, 4, none⟩ (.int .i64 n4)) w.heap.size #[.int .i64 n0, .int .i64 n1, .int .i64 n2, .int .i64 n3, .int .i64 n4] 23) := Cl.set5 N19.out _ _ _ _ _
  have B25 : Hid (Below w.heap.size w (((((v16.setCell ⟨w.heap.size, 0, none⟩ (.int .i64 n0)).setCell ⟨w.heap.size, 1, none⟩ (.int .i64 n1)).setCell ⟨w.heap.size, 2, none⟩ (.int .i64 n2)).setCell ⟨w.heap.size, 3, none⟩ (.int .i64 n3)).setCell ⟨w.heap.size, 4, none⟩ (.int .i64 n4))) := B18.out.trans ((only_set5 v16 w.heap.size _ _ _ _ _).below L5.out)
  go_wp2
  (try simp only [Exit.inBlock, Exit.then])
  generalize ((((v16.setCell ⟨w.heap.size, 0, none⟩ (.int .i64 n0)).setCell ⟨w.heap.size, 1, none⟩ (.int .i64 n1)).setCell ⟨w.heap.size, 2, none⟩ (.int .i64 n2)).setCell ⟨w.heap.size, 3, none⟩ (.int .i64 n3)).setCell ⟨w.heap.size, 4, none⟩ (.int .i64 n4) = v24 at *
  clear c22_0 c22_1 c22_2 c22_3 c22_4 g23_0 g23_1 g23_2 g23_3 g23_4
  obtain ⟨c27_0, c27_1, c27_2, c27_3, c27_4⟩ := N26.out.five
  refine bodyPost_ret (v := .tuple #[.agg #[.int .i64 n0, .int .i64 n1, .int .i64 n2, .int .i64 n3, .int .i64 n4], .bool true]) ?_ rfl ⟨rfl, B25.out⟩
  · rw [results_cell_tmp rfl]
    go_simp

set_option maxRecDepth 100000 in
set_option maxHeartbeats 1000000 in
theorem dec_other (s : ByteArray) (hs : s.size ≤ maxLen) (w : World) (T : Tab w) (h1 : (rdP s).ok = true) (h2 : ¬ (⟨(slotL (rdP s)).toArray⟩ : ByteArray) = s) : Calls Tryd.prog 12 #[.string s] w fun e w' => e = .returned (.tuple #[rtV rt0, .bool false]) ∧ Below w.heap.size w w' := by
  have TAB : Hid (Tab w) := T
  have C0 : Hid (∀ u, Calls Tryd.prog 29 #[.string s] u fun e w' => e = .returned (rtV (rdP s)) ∧ Below u.heap.size u w') := fun u => rdroot_any s hs u
  have C1 : Hid (∀ u, Tab u → Calls Tryd.prog 10 #[rtV (rdP s)] u fun e w' => e = .returned (.tuple #[.string ⟨(slotL (rdP s)).toArray⟩, .int .i64 0]) ∧ Below u.heap.size u w') := fun u hu => enc_yes h1 u hu
  have hne := str_ne h2
  generalize (⟨(slotL (rdP s)).toArray⟩ : ByteArray) = A at *
  clear T hs h1 h2
  generalize rdP s = r at *
  obtain ⟨n0, n1, n2, n3, n4⟩ := r
  unfold rtV at *
  (try unfold rt0 at *)
  dsimp only at *
  go_enter Tryd.func12, Tryd.ntmps12
  go_wp2_with fail
  have N4 : Hid (Cl (w.alloc (.cells #[.int .i64 0, .int .i64 0, .int .i64 0, .int .i64 0, .int .i64 0] 23)) w.heap.size #[.int .i64 0, .int .i64 0, .int .i64 0, .int .i64 0, .int .i64 0] 23) := Cl.new w #[.int .i64 0, .int .i64 0, .int .i64 0, .int .i64 0, .int .i64 0] 23
  have B3 : Hid (Below w.heap.size w (w.alloc (.cells #[.int .i64 0, .int .i64 0, .int .i64 0, .int .i64 0, .int .i64 0] 23))) := (Below.refl _ _).alloc (Nat.le_refl _) _
  have L5 : Hid (w.heap.size ≤ w.heap.size) := Nat.le_refl _
  generalize w.alloc (.cells #[.int .i64 0, .int .i64 0, .int .i64 0, .int .i64 0, .int .i64 0] 23) = v1 at *
  refine Calls.mono (C0.out _) ?_
  rintro e v6 ⟨rfl, b7⟩
  have N9 : Hid (Cl v6 w.heap.size #[.int .i64 0, .int .i64 0, .int .i64 0, .int .i64 0, .int .i64 0] 23) := Cl.on N4.out b7
  have B8 : Hid (Below w.heap.size w v6) := B3.out.trans (b7.mono B3.out.size)
  clear b7 N4 B3
  go_wp2_with fail
  have N13 : Hid (Cl (v6.alloc (.cells #[.int .i64 n0, .int .i64 n1, .int .i64 n2, .int .i64 n3, .int .i64 n4] 23)) v6.heap.size #[.int .i64 n0, .int .i64 n1, .int .i64 n2, .int .i64 n3, .int .i64 n4] 23) := Cl.new v6 #[.int .i64 n0, .int .i64 n1, .int .i64 n2, .int .i64 n3, .int .i64 n4] 23
  have B12 : Hid (Below w.heap.size w (v6.alloc (.cells #[.int .i64 n0, .int .i64 n1, .int .i64 n2, .int .i64 n3, .int .i64 n4] 23))) := B8.out.alloc B8.out.size _
  have L14 : Hid (w.heap.size ≤ v6.heap.size) := B8.out.size
  have N15 : Hid (Cl (v6.alloc (.cells #[.int .i64 n0, .int .i64 n1, .int .i64 n2, .int .i64 n3, .int .i64 n4] 23)) w.heap.size #[.int .i64 0, .int .i64 0, .int .i64 0, .int .i64 0, .int .i64 0] 23) := Cl.alloc N9.out _
  clear N9 B8
  generalize v6.alloc (.cells #[.int .i64 n0, .int .i64 n1, .int .i64 n2, .int .i64 n3, .int .i64 n4] 23) = v10 at *
  generalize v6.heap.size = q11 at *
  refine Calls.mono (C1.out _ (TAB.out.below B12.out)) ?_
  rintro e v16 ⟨rfl, b17⟩
  have N19 : Hid (Cl v16 w.heap.size #[.int .i64 0, .int .i64 0, .int .i64 0, .int .i64 0, .int .i64 0] 23) := Cl.on N15.out b17
  have N20 : Hid (Cl v16 q11 #[.int .i64 n0, .int .i64 n1, .int .i64 n2, .int .i64 n3, .int .i64 n4] 23) := Cl.on N13.out b17
  have B18 : Hid (Below w.heap.size w v16) := B12.out.trans (b17.mono B12.out.size)
  clear b17 N15 N13 B12
  obtain ⟨c21_0, c21_1, c21_2, c21_3, c21_4⟩ := N20.out.five
  obtain ⟨c22_0, c22_1, c22_2, c22_3, c22_4⟩ := N19.out.five
  have g23_0 := N19.out.frozen 0
  have g23_1 := N19.out.frozen 1
  have g23_2 := N19.out.frozen 2
  have g23_3 := N19.out.frozen 3
  have g23_4 := N19.out.frozen 4
  have N26 : Hid (Cl (((((v16.setCell ⟨w.heap.size, 0, none⟩ (.int .i64 0)).setCell ⟨w.heap.size, 1, none⟩ (.int .i64 0)).setCell ⟨w.heap.size, 2, none⟩ (.int .i64 0)).setCell ⟨w.heap.size, 3, none⟩ (.int .i64 0)).setCell ⟨w.heap.size, 4, none⟩ (.int .i64 0)) w.heap.size #[.int .i64 0, .int .i64 0, .int .i64 0, .int .i64 0, .int .i64 0] 23) := Cl.set5 N19.out _ _ _ _ _
  have B25 : Hid (Below w.heap.size w (((((v16.setCell ⟨w.heap.size, 0, none⟩ (.int .i64 0)).setCell ⟨w.heap.size, 1, none⟩ (.int .i64 0)).setCell ⟨w.heap.size, 2, none⟩ (.int .i64 0)).setCell ⟨w.heap.size, 3, none⟩ (.int .i64 0)).setCell ⟨w.heap.size, 4, none⟩ (.int .i64 0))) := B18.out.trans ((only_set5 v16 w.heap.size _ _ _ _ _).below L5.out)
  go_wp2
  (try simp only [Exit.inBlock, Exit.then])
  generalize ((((v16.setCell ⟨w.heap.size, 0, none⟩ (.int .i64 0)).setCell ⟨w.heap.size, 1, none⟩ (.int .i64 0)).setCell ⟨w.heap.size, 2, none⟩ (.int .i64 0)).setCell ⟨w.heap.size, 3, none⟩ (.int .i64 0)).setCell ⟨w.heap.size, 4, none⟩ (.int .i64 0) = v24 at *
  clear c22_0 c22_1 c22_2 c22_3 c22_4 g23_0 g23_1 g23_2 g23_3 g23_4
  obtain ⟨c27_0, c27_1, c27_2, c27_3, c27_4⟩ := N26.out.five
  refine bodyPost_ret (v := .tuple #[.agg #[.int .i64 0, .int .i64 0, .int .i64 0, .int .i64 0, .int .i64 0], .bool false]) ?_ rfl ⟨rfl, B25.out⟩
  · rw [results_cell_tmp rfl]
    go_simp

set_option maxRecDepth 100000 in
set_option maxHeartbeats 1000000 in
theorem dec_refused (s : ByteArray) (hs : s.size ≤ maxLen) (w : World) (T : Tab w) (h1 : (rdP s).ok = false) : Calls Tryd.prog 12 #[.string s] w fun e w' => e = .returned (.tuple #[rtV rt0, .bool false]) ∧ Below w.heap.size w w' := by
  have TAB : Hid (Tab w) := T
  have C0 : Hid (∀ u, Calls Tryd.prog 29 #[.string s] u fun e w' => e = .returned (rtV (rdP s)) ∧ Below u.heap.size u w') := fun u => rdroot_any s hs u
  have C1 : Hid (∀ u, Tab u → Calls Tryd.prog 10 #[rtV (rdP s)] u fun e w' => e = .returned (.tuple #[.string ⟨#[]⟩, .int .i64 1]) ∧ Below u.heap.size u w') := fun u hu => enc_not h1 u hu
  clear T hs h1
  generalize rdP s = r at *
  obtain ⟨n0, n1, n2, n3, n4⟩ := r
  unfold rtV at *
  (try unfold rt0 at *)
  dsimp only at *
  go_enter Tryd.func12, Tryd.ntmps12
  go_wp2_with fail
  have N4 : Hid (Cl (w.alloc (.cells #[.int .i64 0, .int .i64 0, .int .i64 0, .int .i64 0, .int .i64 0] 23)) w.heap.size #[.int .i64 0, .int .i64 0, .int .i64 0, .int .i64 0, .int .i64 0] 23) := Cl.new w #[.int .i64 0, .int .i64 0, .int .i64 0, .int .i64 0, .int .i64 0] 23
  have B3 : Hid (Below w.heap.size w (w.alloc (.cells #[.int .i64 0, .int .i64 0, .int .i64 0, .int .i64 0, .int .i64 0] 23))) := (Below.refl _ _).alloc (Nat.le_refl _) _
  have L5 : Hid (w.heap.size ≤ w.heap.size) := Nat.le_refl _
  generalize w.alloc (.cells #[.int .i64 0, .int .i64 0, .int .i64 0, .int .i64 0, .int .i64 0] 23) = v1 at *
  refine Calls.mono (C0.out _) ?_
  rintro e v6 ⟨rfl, b7⟩
  have N9 : Hid (Cl v6 w.heap.size #[.int .i64 0, .int .i64 0, .int .i64 0, .int .i64 0, .int .i64 0] 23) := Cl.on N4.out b7
  have B8 : Hid (Below w.heap.size w v6) := B3.out.trans (b7.mono B3.out.size)
  clear b7 N4 B3
  go_wp2_with fail
  have N13 : Hid (Cl (v6.alloc (.cells #[.int .i64 n0, .int .i64 n1, .int .i64 n2, .int .i64 n3, .int .i64 n4] 23)) v6.heap.size #[.int .i64 n0, .int .i64 n1, .int .i64 n2, .int .i64 n3, .int .i64 n4] 23) := Cl.new v6 #[.int .i64 n0, .int .i64 n1, .int .i64 n2, .int .i64 n3, .int .i64 n4] 23
  have B12 : Hid (Below w.heap.size w (v6.alloc (.cells #[.int .i64 n0, .int .i64 n1, .int .i64 n2, .int .i64 n3, .int .i64 n4] 23))) := B8.out.alloc B8.out.size _
  have L14 : Hid (w.heap.size ≤ v6.heap.size) := B8.out.size
  have N15 : Hid (Cl (v6.alloc (.cells #[.int .i64 n0, .int .i64 n1, .int .i64 n2, .int .i64 n3, .int .i64 n4] 23)) w.heap.size #[.int .i64 0, .int .i64 0, .int .i64 0, .int .i64 0, .int .i64 0] 23) := Cl.alloc N9.out _
  clear N9 B8
  generalize v6.alloc (.cells #[.int .i64 n0, .int .i64 n1, .int .i64 n2, .int .i64 n3, .int .i64 n4] 23) = v10 at *
  generalize v6.heap.size = q11 at *
  refine Calls.mono (C1.out _ (TAB.out.below B12.out)) ?_
  rintro e v16 ⟨rfl, b17⟩
  have N19 : Hid (Cl v16 w.heap.size #[.int .i64 0, .int .i64 0, .int .i64 0, .int .i64 0, .int .i64 0] 23) := Cl.on N15.out b17
  have N20 : Hid (Cl v16 q11 #[.int .i64 n0, .int .i64 n1, .int .i64 n2, .int .i64 n3, .int .i64 n4] 23) := Cl.on N13.out b17
  have B18 : Hid (Below w.heap.size w v16) := B12.out.trans (b17.mono B12.out.size)
  clear b17 N15 N13 B12
  obtain ⟨c21_0, c21_1, c21_2, c21_3, c21_4⟩ := N20.out.five
  obtain ⟨c22_0, c22_1, c22_2, c22_3, c22_4⟩ := N19.out.five
  have g23_0 := N19.out.frozen 0
  have g23_1 := N19.out.frozen 1
  have g23_2 := N19.out.frozen 2
  have g23_3 := N19.out.frozen 3
  have g23_4 := N19.out.frozen 4
  have N26 : Hid (Cl (((((v16.setCell ⟨w.heap.size, 0, none⟩ (.int .i64 0)).setCell ⟨w.heap.size, 1, none⟩ (.int .i64 0)).setCell ⟨w.heap.size, 2, none⟩ (.int .i64 0)).setCell ⟨w.heap.size, 3, none⟩ (.int .i64 0)).setCell ⟨w.heap.size, 4, none⟩ (.int .i64 0)) w.heap.size #[.int .i64 0, .int .i64 0, .int .i64 0, .int .i64 0, .int .i64 0] 23) := Cl.set5 N19.out _ _ _ _ _
  have B25 : Hid (Below w.heap.size w (((((v16.setCell ⟨w.heap.size, 0, none⟩ (.int .i64 0)).setCell ⟨w.heap.size, 1, none⟩ (.int .i64 0)).setCell ⟨w.heap.size, 2, none⟩ (.int .i64 0)).setCell ⟨w.heap.size, 3, none⟩ (.int .i64 0)).setCell ⟨w.heap.size, 4, none⟩ (.int .i64 0))) := B18.out.trans ((only_set5 v16 w.heap.size _ _ _ _ _).below L5.out)
  go_wp2
  (try simp only [Exit.inBlock, Exit.then])
  generalize ((((v16.setCell ⟨w.heap.size, 0, none⟩ (.int .i64 0)).setCell ⟨w.heap.size, 1, none⟩ (.int .i64 0)).setCell ⟨w.heap.size, 2, none⟩ (.int .i64 0)).setCell ⟨w.heap.size, 3, none⟩ (.int .i64 0)).setCell ⟨w.heap.size, 4, none⟩ (.int .i64 0) = v24 at *
  clear c22_0 c22_1 c22_2 c22_3 c22_4 g23_0 g23_1 g23_2 g23_3 g23_4
  obtain ⟨c27_0, c27_1, c27_2, c27_3, c27_4⟩ := N26.out.five
  refine bodyPost_ret (v := .tuple #[.agg #[.int .i64 0, .int .i64 0, .int .i64 0, .int .i64 0, .int .i64 0], .bool false]) ?_ rfl ⟨rfl, B25.out⟩
  · rw [results_cell_tmp rfl]
    go_simp

theorem dec_any (s : ByteArray) (hs : s.size ≤ maxLen) (w : World) (T : Tab w) : Calls Tryd.prog 12 #[.string s] w fun e w' => e = .returned (.tuple #[rtV (decR s.data.toList), .bool (decB s.data.toList)]) ∧ Below w.heap.size w w' := by
  have hb := dec_by (rdP s) s.data.toList (fun r h e => rdP_slot h e)
  cases h1 : (rdP s).ok
  · have hn := hb.2 (fun c => by rw [h1] at c; cases c.1)
    rw [decR_no hn, hn]
    exact dec_refused s hs w T h1
  · by_cases h2 : (⟨(slotL (rdP s)).toArray⟩ : ByteArray) = s
    · have hy := hb.1 ⟨h1, by rw [encS_ok h1]; conv => rhs; rw [← h2]⟩
      rw [hy.1, hy.2]
      exact dec_yes s hs w T h1 h2
    · have hn := hb.2 (fun c => h2 (by rw [← encS_ok h1, c.2]))
      rw [decR_no hn, hn]
      exact dec_other s hs w T h1 h2

set_option maxRecDepth 100000 in
set_option maxHeartbeats 1000000 in
theorem pick_none {a b : ByteArray} {x y : Rt} {p q : Bool} (w : World) (T : Tab w) (K1 : ∀ u, Tab u → Calls Tryd.prog 12 #[.string a] u fun e w' => e = .returned (.tuple #[rtV x, .bool p]) ∧ Below u.heap.size u w') (K2 : ∀ u, Tab u → Calls Tryd.prog 12 #[.string b] u fun e w' => e = .returned (.tuple #[rtV y, .bool q]) ∧ Below u.heap.size u w') (hp : p = false) (hq : q = false) : Calls Tryd.prog 14 #[.string a, .string b] w fun e w' => e = .returned (.tuple #[rtV rt0, .int .i64 70]) ∧ Below w.heap.size w w' := by
  have TAB : Hid (Tab w) := T
  have C1 : Hid _ := K1
  have C2 : Hid _ := K2
  subst hp hq
  clear T K1 K2
  obtain ⟨n0, n1, n2, n3, n4⟩ := x
  obtain ⟨m0, m1, m2, m3, m4⟩ := y
  unfold rtV at *
  (try unfold rt0 at *)
  dsimp only at *
  go_enter Tryd.func14, Tryd.ntmps14
  go_wp2_with fail
  have N4 : Hid (Cl (w.alloc (.cells #[.int .i64 0, .int .i64 0, .int .i64 0, .int .i64 0, .int .i64 0] 23)) w.heap.size #[.int .i64 0, .int .i64 0, .int .i64 0, .int .i64 0, .int .i64 0] 23) := Cl.new w #[.int .i64 0, .int .i64 0, .int .i64 0, .int .i64 0, .int .i64 0] 23
  have B3 : Hid (Below w.heap.size w (w.alloc (.cells #[.int .i64 0, .int .i64 0, .int .i64 0, .int .i64 0, .int .i64 0] 23))) := (Below.refl _ _).alloc (Nat.le_refl _) _
  have L5 : Hid (w.heap.size ≤ w.heap.size) := Nat.le_refl _
  generalize w.alloc (.cells #[.int .i64 0, .int .i64 0, .int .i64 0, .int .i64 0, .int .i64 0] 23) = v1 at *
  refine Calls.mono (C1.out _ (TAB.out.below B3.out)) ?_
  rintro e v6 ⟨rfl, b7⟩
  have N9 : Hid (Cl v6 w.heap.size #[.int .i64 0, .int .i64 0, .int .i64 0, .int .i64 0, .int .i64 0] 23) := Cl.on N4.out b7
  have B8 : Hid (Below w.heap.size w v6) := B3.out.trans (b7.mono B3.out.size)
  clear b7 N4 B3
  go_wp2_with fail
  have N13 : Hid (Cl (v6.alloc (.cells #[.int .i64 n0, .int .i64 n1, .int .i64 n2, .int .i64 n3, .int .i64 n4] 23)) v6.heap.size #[.int .i64 n0, .int .i64 n1, .int .i64 n2, .int .i64 n3, .int .i64 n4] 23) := Cl.new v6 #[.int .i64 n0, .int .i64 n1, .int .i64 n2, .int .i64 n3, .int .i64 n4] 23
  have B12 : Hid (Below w.heap.size w (v6.alloc (.cells #[.int .i64 n0, .int .i64 n1, .int .i64 n2, .int .i64 n3, .int .i64 n4] 23))) := B8.out.alloc B8.out.size _
  have L14 : Hid (w.heap.size ≤ v6.heap.size) := B8.out.size
  have N15 : Hid (Cl (v6.alloc (.cells #[.int .i64 n0, .int .i64 n1, .int .i64 n2, .int .i64 n3, .int .i64 n4] 23)) w.heap.size #[.int .i64 0, .int .i64 0, .int .i64 0, .int .i64 0, .int .i64 0] 23) := Cl.alloc N9.out _
  clear N9 B8
  generalize v6.alloc (.cells #[.int .i64 n0, .int .i64 n1, .int .i64 n2, .int .i64 n3, .int .i64 n4] 23) = v10 at *
  generalize v6.heap.size = q11 at *
  refine Calls.mono (C2.out _ (TAB.out.below B12.out)) ?_
  rintro e v16 ⟨rfl, b17⟩
  have N19 : Hid (Cl v16 w.heap.size #[.int .i64 0, .int .i64 0, .int .i64 0, .int .i64 0, .int .i64 0] 23) := Cl.on N15.out b17
  have N20 : Hid (Cl v16 q11 #[.int .i64 n0, .int .i64 n1, .int .i64 n2, .int .i64 n3, .int .i64 n4] 23) := Cl.on N13.out b17
  have B18 : Hid (Below w.heap.size w v16) := B12.out.trans (b17.mono B12.out.size)
  clear b17 N15 N13 B12
  go_upto_region 3 with fail
  have N24 : Hid (Cl (v16.alloc (.cells #[.int .i64 m0, .int .i64 m1, .int .i64 m2, .int .i64 m3, .int .i64 m4] 23)) v16.heap.size #[.int .i64 m0, .int .i64 m1, .int .i64 m2, .int .i64 m3, .int .i64 m4] 23) := Cl.new v16 #[.int .i64 m0, .int .i64 m1, .int .i64 m2, .int .i64 m3, .int .i64 m4] 23
  have B23 : Hid (Below w.heap.size w (v16.alloc (.cells #[.int .i64 m0, .int .i64 m1, .int .i64 m2, .int .i64 m3, .int .i64 m4] 23))) := B18.out.alloc B18.out.size _
  have L25 : Hid (w.heap.size ≤ v16.heap.size) := B18.out.size
  have N26 : Hid (Cl (v16.alloc (.cells #[.int .i64 m0, .int .i64 m1, .int .i64 m2, .int .i64 m3, .int .i64 m4] 23)) w.heap.size #[.int .i64 0, .int .i64 0, .int .i64 0, .int .i64 0, .int .i64 0] 23) := Cl.alloc N19.out _
  have N27 : Hid (Cl (v16.alloc (.cells #[.int .i64 m0, .int .i64 m1, .int .i64 m2, .int .i64 m3, .int .i64 m4] 23)) q11 #[.int .i64 n0, .int .i64 n1, .int .i64 n2, .int .i64 n3, .int .i64 n4] 23) := Cl.alloc N20.out _
  clear N19 N20 B18
  generalize v16.alloc (.cells #[.int .i64 m0, .int .i64 m1, .int .i64 m2, .int .i64 m3, .int .i64 m4] 23) = v21 at *
  generalize v16.heap.size = q22 at *
  obtain ⟨c28_0, c28_1, c28_2, c28_3, c28_4⟩ := N27.out.five
  obtain ⟨c29_0, c29_1, c29_2, c29_3, c29_4⟩ := N24.out.five
  obtain ⟨c30_0, c30_1, c30_2, c30_3, c30_4⟩ := N26.out.five
  have g31_0 := N26.out.frozen 0
  have g31_1 := N26.out.frozen 1
  have g31_2 := N26.out.frozen 2
  have g31_3 := N26.out.frozen 3
  have g31_4 := N26.out.frozen 4
  have N34 : Hid (Cl (((((v21.setCell ⟨w.heap.size, 0, none⟩ (.int .i64 0)).setCell ⟨w.heap.size, 1, none⟩ (.int .i64 0)).setCell ⟨w.heap.size, 2, none⟩ (.int .i64 0)).setCell ⟨w.heap.size, 3, none⟩ (.int .i64 0)).setCell ⟨w.heap.size, 4, none⟩ (.int .i64 0)) w.heap.size #[.int .i64 0, .int .i64 0, .int .i64 0, .int .i64 0, .int .i64 0] 23) := Cl.set5 N26.out _ _ _ _ _
  have B33 : Hid (Below w.heap.size w (((((v21.setCell ⟨w.heap.size, 0, none⟩ (.int .i64 0)).setCell ⟨w.heap.size, 1, none⟩ (.int .i64 0)).setCell ⟨w.heap.size, 2, none⟩ (.int .i64 0)).setCell ⟨w.heap.size, 3, none⟩ (.int .i64 0)).setCell ⟨w.heap.size, 4, none⟩ (.int .i64 0))) := B23.out.trans ((only_set5 v21 w.heap.size _ _ _ _ _).below L5.out)
  go_wp2
  (try simp only [Exit.inBlock, Exit.then])
  generalize ((((v21.setCell ⟨w.heap.size, 0, none⟩ (.int .i64 0)).setCell ⟨w.heap.size, 1, none⟩ (.int .i64 0)).setCell ⟨w.heap.size, 2, none⟩ (.int .i64 0)).setCell ⟨w.heap.size, 3, none⟩ (.int .i64 0)).setCell ⟨w.heap.size, 4, none⟩ (.int .i64 0) = v32 at *
  clear c30_0 c30_1 c30_2 c30_3 c30_4 g31_0 g31_1 g31_2 g31_3 g31_4
  obtain ⟨c35_0, c35_1, c35_2, c35_3, c35_4⟩ := N34.out.five
  refine bodyPost_ret (v := .tuple #[.agg #[.int .i64 0, .int .i64 0, .int .i64 0, .int .i64 0, .int .i64 0], .int .i64 70]) ?_ rfl ⟨rfl, B33.out⟩
  · rw [results_cell_tmp rfl]
    go_simp

set_option maxRecDepth 100000 in
set_option maxHeartbeats 1000000 in
theorem pick_first {a b : ByteArray} {x y : Rt} {p q : Bool} (w : World) (T : Tab w) (K1 : ∀ u, Tab u → Calls Tryd.prog 12 #[.string a] u fun e w' => e = .returned (.tuple #[rtV x, .bool p]) ∧ Below u.heap.size u w') (K2 : ∀ u, Tab u → Calls Tryd.prog 12 #[.string b] u fun e w' => e = .returned (.tuple #[rtV y, .bool q]) ∧ Below u.heap.size u w') (hp : p = true) (h : ¬ x.ep < y.ep) : Calls Tryd.prog 14 #[.string a, .string b] w fun e w' => e = .returned (.tuple #[rtV x, .int .i64 0]) ∧ Below w.heap.size w w' := by
  have TAB : Hid (Tab w) := T
  have C1 : Hid _ := K1
  have C2 : Hid _ := K2
  subst hp
  clear T K1 K2
  obtain ⟨n0, n1, n2, n3, n4⟩ := x
  obtain ⟨m0, m1, m2, m3, m4⟩ := y
  unfold rtV at *
  (try unfold rt0 at *)
  dsimp only at *
  go_enter Tryd.func14, Tryd.ntmps14
  go_wp2_with fail
  have N4 : Hid (Cl (w.alloc (.cells #[.int .i64 0, .int .i64 0, .int .i64 0, .int .i64 0, .int .i64 0] 23)) w.heap.size #[.int .i64 0, .int .i64 0, .int .i64 0, .int .i64 0, .int .i64 0] 23) := Cl.new w #[.int .i64 0, .int .i64 0, .int .i64 0, .int .i64 0, .int .i64 0] 23
  have B3 : Hid (Below w.heap.size w (w.alloc (.cells #[.int .i64 0, .int .i64 0, .int .i64 0, .int .i64 0, .int .i64 0] 23))) := (Below.refl _ _).alloc (Nat.le_refl _) _
  have L5 : Hid (w.heap.size ≤ w.heap.size) := Nat.le_refl _
  generalize w.alloc (.cells #[.int .i64 0, .int .i64 0, .int .i64 0, .int .i64 0, .int .i64 0] 23) = v1 at *
  refine Calls.mono (C1.out _ (TAB.out.below B3.out)) ?_
  rintro e v6 ⟨rfl, b7⟩
  have N9 : Hid (Cl v6 w.heap.size #[.int .i64 0, .int .i64 0, .int .i64 0, .int .i64 0, .int .i64 0] 23) := Cl.on N4.out b7
  have B8 : Hid (Below w.heap.size w v6) := B3.out.trans (b7.mono B3.out.size)
  clear b7 N4 B3
  go_wp2_with fail
  have N13 : Hid (Cl (v6.alloc (.cells #[.int .i64 n0, .int .i64 n1, .int .i64 n2, .int .i64 n3, .int .i64 n4] 23)) v6.heap.size #[.int .i64 n0, .int .i64 n1, .int .i64 n2, .int .i64 n3, .int .i64 n4] 23) := Cl.new v6 #[.int .i64 n0, .int .i64 n1, .int .i64 n2, .int .i64 n3, .int .i64 n4] 23
  have B12 : Hid (Below w.heap.size w (v6.alloc (.cells #[.int .i64 n0, .int .i64 n1, .int .i64 n2, .int .i64 n3, .int .i64 n4] 23))) := B8.out.alloc B8.out.size _
  have L14 : Hid (w.heap.size ≤ v6.heap.size) := B8.out.size
  have N15 : Hid (Cl (v6.alloc (.cells #[.int .i64 n0, .int .i64 n1, .int .i64 n2, .int .i64 n3, .int .i64 n4] 23)) w.heap.size #[.int .i64 0, .int .i64 0, .int .i64 0, .int .i64 0, .int .i64 0] 23) := Cl.alloc N9.out _
  clear N9 B8
  generalize v6.alloc (.cells #[.int .i64 n0, .int .i64 n1, .int .i64 n2, .int .i64 n3, .int .i64 n4] 23) = v10 at *
  generalize v6.heap.size = q11 at *
  refine Calls.mono (C2.out _ (TAB.out.below B12.out)) ?_
  rintro e v16 ⟨rfl, b17⟩
  have N19 : Hid (Cl v16 w.heap.size #[.int .i64 0, .int .i64 0, .int .i64 0, .int .i64 0, .int .i64 0] 23) := Cl.on N15.out b17
  have N20 : Hid (Cl v16 q11 #[.int .i64 n0, .int .i64 n1, .int .i64 n2, .int .i64 n3, .int .i64 n4] 23) := Cl.on N13.out b17
  have B18 : Hid (Below w.heap.size w v16) := B12.out.trans (b17.mono B12.out.size)
  clear b17 N15 N13 B12
  go_upto_region 3 with fail
  have N24 : Hid (Cl (v16.alloc (.cells #[.int .i64 m0, .int .i64 m1, .int .i64 m2, .int .i64 m3, .int .i64 m4] 23)) v16.heap.size #[.int .i64 m0, .int .i64 m1, .int .i64 m2, .int .i64 m3, .int .i64 m4] 23) := Cl.new v16 #[.int .i64 m0, .int .i64 m1, .int .i64 m2, .int .i64 m3, .int .i64 m4] 23
  have B23 : Hid (Below w.heap.size w (v16.alloc (.cells #[.int .i64 m0, .int .i64 m1, .int .i64 m2, .int .i64 m3, .int .i64 m4] 23))) := B18.out.alloc B18.out.size _
  have L25 : Hid (w.heap.size ≤ v16.heap.size) := B18.out.size
  have N26 : Hid (Cl (v16.alloc (.cells #[.int .i64 m0, .int .i64 m1, .int .i64 m2, .int .i64 m3, .int .i64 m4] 23)) w.heap.size #[.int .i64 0, .int .i64 0, .int .i64 0, .int .i64 0, .int .i64 0] 23) := Cl.alloc N19.out _
  have N27 : Hid (Cl (v16.alloc (.cells #[.int .i64 m0, .int .i64 m1, .int .i64 m2, .int .i64 m3, .int .i64 m4] 23)) q11 #[.int .i64 n0, .int .i64 n1, .int .i64 n2, .int .i64 n3, .int .i64 n4] 23) := Cl.alloc N20.out _
  clear N19 N20 B18
  generalize v16.alloc (.cells #[.int .i64 m0, .int .i64 m1, .int .i64 m2, .int .i64 m3, .int .i64 m4] 23) = v21 at *
  generalize v16.heap.size = q22 at *
  obtain ⟨c28_0, c28_1, c28_2, c28_3, c28_4⟩ := N27.out.five
  obtain ⟨c29_0, c29_1, c29_2, c29_3, c29_4⟩ := N24.out.five
  obtain ⟨c30_0, c30_1, c30_2, c30_3, c30_4⟩ := N26.out.five
  have g31_0 := N26.out.frozen 0
  have g31_1 := N26.out.frozen 1
  have g31_2 := N26.out.frozen 2
  have g31_3 := N26.out.frozen 3
  have g31_4 := N26.out.frozen 4
  have N34 : Hid (Cl (((((v21.setCell ⟨w.heap.size, 0, none⟩ (.int .i64 n0)).setCell ⟨w.heap.size, 1, none⟩ (.int .i64 n1)).setCell ⟨w.heap.size, 2, none⟩ (.int .i64 n2)).setCell ⟨w.heap.size, 3, none⟩ (.int .i64 n3)).setCell ⟨w.heap.size, 4, none⟩ (.int .i64 n4)) w.heap.size #[.int .i64 n0, .int .i64 n1, .int .i64 n2, .int .i64 n3, .int .i64 n4] 23) := Cl.set5 N26.out _ _ _ _ _
  have B33 : Hid (Below w.heap.size w (((((v21.setCell ⟨w.heap.size, 0, none⟩ (.int .i64 n0)).setCell ⟨w.heap.size, 1, none⟩ (.int .i64 n1)).setCell ⟨w.heap.size, 2, none⟩ (.int .i64 n2)).setCell ⟨w.heap.size, 3, none⟩ (.int .i64 n3)).setCell ⟨w.heap.size, 4, none⟩ (.int .i64 n4))) := B23.out.trans ((only_set5 v21 w.heap.size _ _ _ _ _).below L5.out)
  go_wp2
  (try simp only [Exit.inBlock, Exit.then])
  generalize ((((v21.setCell ⟨w.heap.size, 0, none⟩ (.int .i64 n0)).setCell ⟨w.heap.size, 1, none⟩ (.int .i64 n1)).setCell ⟨w.heap.size, 2, none⟩ (.int .i64 n2)).setCell ⟨w.heap.size, 3, none⟩ (.int .i64 n3)).setCell ⟨w.heap.size, 4, none⟩ (.int .i64 n4) = v32 at *
  clear c30_0 c30_1 c30_2 c30_3 c30_4 g31_0 g31_1 g31_2 g31_3 g31_4
  obtain ⟨c35_0, c35_1, c35_2, c35_3, c35_4⟩ := N34.out.five
  refine bodyPost_ret (v := .tuple #[.agg #[.int .i64 n0, .int .i64 n1, .int .i64 n2, .int .i64 n3, .int .i64 n4], .int .i64 0]) ?_ rfl ⟨rfl, B33.out⟩
  · rw [results_cell_tmp rfl]
    go_simp

set_option maxRecDepth 100000 in
set_option maxHeartbeats 1000000 in
theorem pick_left {a b : ByteArray} {x y : Rt} {p q : Bool} (w : World) (T : Tab w) (K1 : ∀ u, Tab u → Calls Tryd.prog 12 #[.string a] u fun e w' => e = .returned (.tuple #[rtV x, .bool p]) ∧ Below u.heap.size u w') (K2 : ∀ u, Tab u → Calls Tryd.prog 12 #[.string b] u fun e w' => e = .returned (.tuple #[rtV y, .bool q]) ∧ Below u.heap.size u w') (hp : p = false) (hq : q = true) (h : x.ep < y.ep) : Calls Tryd.prog 14 #[.string a, .string b] w fun e w' => e = .returned (.tuple #[rtV y, .int .i64 0]) ∧ Below w.heap.size w w' := by
  have TAB : Hid (Tab w) := T
  have C1 : Hid _ := K1
  have C2 : Hid _ := K2
  subst hp hq
  clear T K1 K2
  obtain ⟨n0, n1, n2, n3, n4⟩ := x
  obtain ⟨m0, m1, m2, m3, m4⟩ := y
  unfold rtV at *
  (try unfold rt0 at *)
  dsimp only at *
  go_enter Tryd.func14, Tryd.ntmps14
  go_wp2_with fail
  have N4 : Hid (Cl (w.alloc (.cells #[.int .i64 0, .int .i64 0, .int .i64 0, .int .i64 0, .int .i64 0] 23)) w.heap.size #[.int .i64 0, .int .i64 0, .int .i64 0, .int .i64 0, .int .i64 0] 23) := Cl.new w #[.int .i64 0, .int .i64 0, .int .i64 0, .int .i64 0, .int .i64 0] 23
  have B3 : Hid (Below w.heap.size w (w.alloc (.cells #[.int .i64 0, .int .i64 0, .int .i64 0, .int .i64 0, .int .i64 0] 23))) := (Below.refl _ _).alloc (Nat.le_refl _) _
  have L5 : Hid (w.heap.size ≤ w.heap.size) := Nat.le_refl _
  generalize w.alloc (.cells #[.int .i64 0, .int .i64 0, .int .i64 0, .int .i64 0, .int .i64 0] 23) = v1 at *
  refine Calls.mono (C1.out _ (TAB.out.below B3.out)) ?_
  rintro e v6 ⟨rfl, b7⟩
  have N9 : Hid (Cl v6 w.heap.size #[.int .i64 0, .int .i64 0, .int .i64 0, .int .i64 0, .int .i64 0] 23) := Cl.on N4.out b7
  have B8 : Hid (Below w.heap.size w v6) := B3.out.trans (b7.mono B3.out.size)
  clear b7 N4 B3
  go_wp2_with fail
  have N13 : Hid (Cl (v6.alloc (.cells #[.int .i64 n0, .int .i64 n1, .int .i64 n2, .int .i64 n3, .int .i64 n4] 23)) v6.heap.size #[.int .i64 n0, .int .i64 n1, .int .i64 n2, .int .i64 n3, .int .i64 n4] 23) := Cl.new v6 #[.int .i64 n0, .int .i64 n1, .int .i64 n2, .int .i64 n3, .int .i64 n4] 23
  have B12 : Hid (Below w.heap.size w (v6.alloc (.cells #[.int .i64 n0, .int .i64 n1, .int .i64 n2, .int .i64 n3, .int .i64 n4] 23))) := B8.out.alloc B8.out.size _
  have L14 : Hid (w.heap.size ≤ v6.heap.size) := B8.out.size
  have N15 : Hid (Cl (v6.alloc (.cells #[.int .i64 n0, .int .i64 n1, .int .i64 n2, .int .i64 n3, .int .i64 n4] 23)) w.heap.size #[.int .i64 0, .int .i64 0, .int .i64 0, .int .i64 0, .int .i64 0] 23) := Cl.alloc N9.out _
  clear N9 B8
  generalize v6.alloc (.cells #[.int .i64 n0, .int .i64 n1, .int .i64 n2, .int .i64 n3, .int .i64 n4] 23) = v10 at *
  generalize v6.heap.size = q11 at *
  refine Calls.mono (C2.out _ (TAB.out.below B12.out)) ?_
  rintro e v16 ⟨rfl, b17⟩
  have N19 : Hid (Cl v16 w.heap.size #[.int .i64 0, .int .i64 0, .int .i64 0, .int .i64 0, .int .i64 0] 23) := Cl.on N15.out b17
  have N20 : Hid (Cl v16 q11 #[.int .i64 n0, .int .i64 n1, .int .i64 n2, .int .i64 n3, .int .i64 n4] 23) := Cl.on N13.out b17
  have B18 : Hid (Below w.heap.size w v16) := B12.out.trans (b17.mono B12.out.size)
  clear b17 N15 N13 B12
  go_upto_region 3 with fail
  have N24 : Hid (Cl (v16.alloc (.cells #[.int .i64 m0, .int .i64 m1, .int .i64 m2, .int .i64 m3, .int .i64 m4] 23)) v16.heap.size #[.int .i64 m0, .int .i64 m1, .int .i64 m2, .int .i64 m3, .int .i64 m4] 23) := Cl.new v16 #[.int .i64 m0, .int .i64 m1, .int .i64 m2, .int .i64 m3, .int .i64 m4] 23
  have B23 : Hid (Below w.heap.size w (v16.alloc (.cells #[.int .i64 m0, .int .i64 m1, .int .i64 m2, .int .i64 m3, .int .i64 m4] 23))) := B18.out.alloc B18.out.size _
  have L25 : Hid (w.heap.size ≤ v16.heap.size) := B18.out.size
  have N26 : Hid (Cl (v16.alloc (.cells #[.int .i64 m0, .int .i64 m1, .int .i64 m2, .int .i64 m3, .int .i64 m4] 23)) w.heap.size #[.int .i64 0, .int .i64 0, .int .i64 0, .int .i64 0, .int .i64 0] 23) := Cl.alloc N19.out _
  have N27 : Hid (Cl (v16.alloc (.cells #[.int .i64 m0, .int .i64 m1, .int .i64 m2, .int .i64 m3, .int .i64 m4] 23)) q11 #[.int .i64 n0, .int .i64 n1, .int .i64 n2, .int .i64 n3, .int .i64 n4] 23) := Cl.alloc N20.out _
  clear N19 N20 B18
  generalize v16.alloc (.cells #[.int .i64 m0, .int .i64 m1, .int .i64 m2, .int .i64 m3, .int .i64 m4] 23) = v21 at *
  generalize v16.heap.size = q22 at *
  obtain ⟨c28_0, c28_1, c28_2, c28_3, c28_4⟩ := N27.out.five
  obtain ⟨c29_0, c29_1, c29_2, c29_3, c29_4⟩ := N24.out.five
  obtain ⟨c30_0, c30_1, c30_2, c30_3, c30_4⟩ := N26.out.five
  have g31_0 := N26.out.frozen 0
  have g31_1 := N26.out.frozen 1
  have g31_2 := N26.out.frozen 2
  have g31_3 := N26.out.frozen 3
  have g31_4 := N26.out.frozen 4
  have N34 : Hid (Cl (((((v21.setCell ⟨w.heap.size, 0, none⟩ (.int .i64 m0)).setCell ⟨w.heap.size, 1, none⟩ (.int .i64 m1)).setCell ⟨w.heap.size, 2, none⟩ (.int .i64 m2)).setCell ⟨w.heap.size, 3, none⟩ (.int .i64 m3)).setCell ⟨w.heap.size, 4, none⟩ (.int .i64 m4)) w.heap.size #[.int .i64 m0, .int .i64 m1, .int .i64 m2, .int .i64 m3, .int .i64 m4] 23) := Cl.set5 N26.out _ _ _ _ _
  have B33 : Hid (Below w.heap.size w (((((v21.setCell ⟨w.heap.size, 0, none⟩ (.int .i64 m0)).setCell ⟨w.heap.size, 1, none⟩ (.int .i64 m1)).setCell ⟨w.heap.size, 2, none⟩ (.int .i64 m2)).setCell ⟨w.heap.size, 3, none⟩ (.int .i64 m3)).setCell ⟨w.heap.size, 4, none⟩ (.int .i64 m4))) := B23.out.trans ((only_set5 v21 w.heap.size _ _ _ _ _).below L5.out)
  go_wp2
  (try simp only [Exit.inBlock, Exit.then])
  generalize ((((v21.setCell ⟨w.heap.size, 0, none⟩ (.int .i64 m0)).setCell ⟨w.heap.size, 1, none⟩ (.int .i64 m1)).setCell ⟨w.heap.size, 2, none⟩ (.int .i64 m2)).setCell ⟨w.heap.size, 3, none⟩ (.int .i64 m3)).setCell ⟨w.heap.size, 4, none⟩ (.int .i64 m4) = v32 at *
  clear c30_0 c30_1 c30_2 c30_3 c30_4 g31_0 g31_1 g31_2 g31_3 g31_4
  obtain ⟨c35_0, c35_1, c35_2, c35_3, c35_4⟩ := N34.out.five
  refine bodyPost_ret (v := .tuple #[.agg #[.int .i64 m0, .int .i64 m1, .int .i64 m2, .int .i64 m3, .int .i64 m4], .int .i64 0]) ?_ rfl ⟨rfl, B33.out⟩
  · rw [results_cell_tmp rfl]
    go_simp

set_option maxRecDepth 100000 in
set_option maxHeartbeats 1000000 in
theorem pick_right {a b : ByteArray} {x y : Rt} {p q : Bool} (w : World) (T : Tab w) (K1 : ∀ u, Tab u → Calls Tryd.prog 12 #[.string a] u fun e w' => e = .returned (.tuple #[rtV x, .bool p]) ∧ Below u.heap.size u w') (K2 : ∀ u, Tab u → Calls Tryd.prog 12 #[.string b] u fun e w' => e = .returned (.tuple #[rtV y, .bool q]) ∧ Below u.heap.size u w') (hp : p = true) (h : x.ep < y.ep) : Calls Tryd.prog 14 #[.string a, .string b] w fun e w' => e = .returned (.tuple #[rtV y, .int .i64 0]) ∧ Below w.heap.size w w' := by
  have TAB : Hid (Tab w) := T
  have C1 : Hid _ := K1
  have C2 : Hid _ := K2
  subst hp
  clear T K1 K2
  obtain ⟨n0, n1, n2, n3, n4⟩ := x
  obtain ⟨m0, m1, m2, m3, m4⟩ := y
  unfold rtV at *
  (try unfold rt0 at *)
  dsimp only at *
  go_enter Tryd.func14, Tryd.ntmps14
  go_wp2_with fail
  have N4 : Hid (Cl (w.alloc (.cells #[.int .i64 0, .int .i64 0, .int .i64 0, .int .i64 0, .int .i64 0] 23)) w.heap.size #[.int .i64 0, .int .i64 0, .int .i64 0, .int .i64 0, .int .i64 0] 23) := Cl.new w #[.int .i64 0, .int .i64 0, .int .i64 0, .int .i64 0, .int .i64 0] 23
  have B3 : Hid (Below w.heap.size w (w.alloc (.cells #[.int .i64 0, .int .i64 0, .int .i64 0, .int .i64 0, .int .i64 0] 23))) := (Below.refl _ _).alloc (Nat.le_refl _) _
  have L5 : Hid (w.heap.size ≤ w.heap.size) := Nat.le_refl _
  generalize w.alloc (.cells #[.int .i64 0, .int .i64 0, .int .i64 0, .int .i64 0, .int .i64 0] 23) = v1 at *
  refine Calls.mono (C1.out _ (TAB.out.below B3.out)) ?_
  rintro e v6 ⟨rfl, b7⟩
  have N9 : Hid (Cl v6 w.heap.size #[.int .i64 0, .int .i64 0, .int .i64 0, .int .i64 0, .int .i64 0] 23) := Cl.on N4.out b7
  have B8 : Hid (Below w.heap.size w v6) := B3.out.trans (b7.mono B3.out.size)
  clear b7 N4 B3
  go_wp2_with fail
  have N13 : Hid (Cl (v6.alloc (.cells #[.int .i64 n0, .int .i64 n1, .int .i64 n2, .int .i64 n3, .int .i64 n4] 23)) v6.heap.size #[.int .i64 n0, .int .i64 n1, .int .i64 n2, .int .i64 n3, .int .i64 n4] 23) := Cl.new v6 #[.int .i64 n0, .int .i64 n1, .int .i64 n2, .int .i64 n3, .int .i64 n4] 23
  have B12 : Hid (Below w.heap.size w (v6.alloc (.cells #[.int .i64 n0, .int .i64 n1, .int .i64 n2, .int .i64 n3, .int .i64 n4] 23))) := B8.out.alloc B8.out.size _
  have L14 : Hid (w.heap.size ≤ v6.heap.size) := B8.out.size
  have N15 : Hid (Cl (v6.alloc (.cells #[.int .i64 n0, .int .i64 n1, .int .i64 n2, .int .i64 n3, .int .i64 n4] 23)) w.heap.size #[.int .i64 0, .int .i64 0, .int .i64 0, .int .i64 0, .int .i64 0] 23) := Cl.alloc N9.out _
  clear N9 B8
  generalize v6.alloc (.cells #[.int .i64 n0, .int .i64 n1, .int .i64 n2, .int .i64 n3, .int .i64 n4] 23) = v10 at *
  generalize v6.heap.size = q11 at *
  refine Calls.mono (C2.out _ (TAB.out.below B12.out)) ?_
  rintro e v16 ⟨rfl, b17⟩
  have N19 : Hid (Cl v16 w.heap.size #[.int .i64 0, .int .i64 0, .int .i64 0, .int .i64 0, .int .i64 0] 23) := Cl.on N15.out b17
  have N20 : Hid (Cl v16 q11 #[.int .i64 n0, .int .i64 n1, .int .i64 n2, .int .i64 n3, .int .i64 n4] 23) := Cl.on N13.out b17
  have B18 : Hid (Below w.heap.size w v16) := B12.out.trans (b17.mono B12.out.size)
  clear b17 N15 N13 B12
  go_upto_region 3 with fail
  have N24 : Hid (Cl (v16.alloc (.cells #[.int .i64 m0, .int .i64 m1, .int .i64 m2, .int .i64 m3, .int .i64 m4] 23)) v16.heap.size #[.int .i64 m0, .int .i64 m1, .int .i64 m2, .int .i64 m3, .int .i64 m4] 23) := Cl.new v16 #[.int .i64 m0, .int .i64 m1, .int .i64 m2, .int .i64 m3, .int .i64 m4] 23
  have B23 : Hid (Below w.heap.size w (v16.alloc (.cells #[.int .i64 m0, .int .i64 m1, .int .i64 m2, .int .i64 m3, .int .i64 m4] 23))) := B18.out.alloc B18.out.size _
  have L25 : Hid (w.heap.size ≤ v16.heap.size) := B18.out.size
  have N26 : Hid (Cl (v16.alloc (.cells #[.int .i64 m0, .int .i64 m1, .int .i64 m2, .int .i64 m3, .int .i64 m4] 23)) w.heap.size #[.int .i64 0, .int .i64 0, .int .i64 0, .int .i64 0, .int .i64 0] 23) := Cl.alloc N19.out _
  have N27 : Hid (Cl (v16.alloc (.cells #[.int .i64 m0, .int .i64 m1, .int .i64 m2, .int .i64 m3, .int .i64 m4] 23)) q11 #[.int .i64 n0, .int .i64 n1, .int .i64 n2, .int .i64 n3, .int .i64 n4] 23) := Cl.alloc N20.out _
  clear N19 N20 B18
  generalize v16.alloc (.cells #[.int .i64 m0, .int .i64 m1, .int .i64 m2, .int .i64 m3, .int .i64 m4] 23) = v21 at *
  generalize v16.heap.size = q22 at *
  obtain ⟨c28_0, c28_1, c28_2, c28_3, c28_4⟩ := N27.out.five
  obtain ⟨c29_0, c29_1, c29_2, c29_3, c29_4⟩ := N24.out.five
  obtain ⟨c30_0, c30_1, c30_2, c30_3, c30_4⟩ := N26.out.five
  have g31_0 := N26.out.frozen 0
  have g31_1 := N26.out.frozen 1
  have g31_2 := N26.out.frozen 2
  have g31_3 := N26.out.frozen 3
  have g31_4 := N26.out.frozen 4
  have N34 : Hid (Cl (((((v21.setCell ⟨w.heap.size, 0, none⟩ (.int .i64 m0)).setCell ⟨w.heap.size, 1, none⟩ (.int .i64 m1)).setCell ⟨w.heap.size, 2, none⟩ (.int .i64 m2)).setCell ⟨w.heap.size, 3, none⟩ (.int .i64 m3)).setCell ⟨w.heap.size, 4, none⟩ (.int .i64 m4)) w.heap.size #[.int .i64 m0, .int .i64 m1, .int .i64 m2, .int .i64 m3, .int .i64 m4] 23) := Cl.set5 N26.out _ _ _ _ _
  have B33 : Hid (Below w.heap.size w (((((v21.setCell ⟨w.heap.size, 0, none⟩ (.int .i64 m0)).setCell ⟨w.heap.size, 1, none⟩ (.int .i64 m1)).setCell ⟨w.heap.size, 2, none⟩ (.int .i64 m2)).setCell ⟨w.heap.size, 3, none⟩ (.int .i64 m3)).setCell ⟨w.heap.size, 4, none⟩ (.int .i64 m4))) := B23.out.trans ((only_set5 v21 w.heap.size _ _ _ _ _).below L5.out)
  go_wp2
  (try simp only [Exit.inBlock, Exit.then])
  generalize ((((v21.setCell ⟨w.heap.size, 0, none⟩ (.int .i64 m0)).setCell ⟨w.heap.size, 1, none⟩ (.int .i64 m1)).setCell ⟨w.heap.size, 2, none⟩ (.int .i64 m2)).setCell ⟨w.heap.size, 3, none⟩ (.int .i64 m3)).setCell ⟨w.heap.size, 4, none⟩ (.int .i64 m4) = v32 at *
  clear c30_0 c30_1 c30_2 c30_3 c30_4 g31_0 g31_1 g31_2 g31_3 g31_4
  obtain ⟨c35_0, c35_1, c35_2, c35_3, c35_4⟩ := N34.out.five
  refine bodyPost_ret (v := .tuple #[.agg #[.int .i64 m0, .int .i64 m1, .int .i64 m2, .int .i64 m3, .int .i64 m4], .int .i64 0]) ?_ rfl ⟨rfl, B33.out⟩
  · rw [results_cell_tmp rfl]
    go_simp

theorem pick_any (a b : ByteArray) (ha : a.size ≤ maxLen) (hb : b.size ≤ maxLen) (w : World) (T : Tab w) : Calls Tryd.prog 14 #[.string a, .string b] w fun e w' => e = .returned (.tuple #[rtV (pkR a.data.toList b.data.toList), .int .i64 (pkE a.data.toList b.data.toList)]) ∧ Below w.heap.size w w' := by
  have K1 := fun u (hu : Tab u) => dec_any a ha u hu
  have K2 := fun u (hu : Tab u) => dec_any b hb u hu
  cases hp : decB a.data.toList with
  | false =>
    rw [hp] at K1
    cases hq : decB b.data.toList with
    | false =>
      rw [hq] at K2
      rw [pkR_none hp hq, pkE_none hp hq]
      exact pick_none w T K1 K2 rfl rfl
    | true =>
      rw [hq] at K2
      rw [pkR_second hp hq, pkE_right hq]
      refine pick_left w T K1 K2 rfl rfl ?_
      have := decR_ep hq
      rw [decR_no hp]
      show 0 < (decR b.data.toList).ep
      omega
  | true =>
    rw [hp] at K1
    rw [pkE_left hp]
    by_cases h : (decR a.data.toList).ep < (decR b.data.toList).ep
    · rw [pkR_right h]
      exact pick_right w T K1 K2 rfl h
    · rw [pkR_left h]
      exact pick_first w T K1 K2 rfl h

end Go.Proofs.YtalljfckjkbieaaDoor

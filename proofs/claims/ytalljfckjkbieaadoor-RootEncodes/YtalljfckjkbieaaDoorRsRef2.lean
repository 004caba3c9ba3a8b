/-
  The walks of the document's answer for layer 7: rootstockref07's Decode and Pick.
-/
import Derived.Test.YtalljfckjkbieaaDoorRsRef
import Derived.Deep.RegionWith
import Derived.Deep.RegionHeld3
namespace Go.Proofs.YtalljfckjkbieaaDoor
open Go.RowKit
set_option linter.unusedVariables false

theorem renc_any (r : Rt) (hw : r.wf) (w : World) : Calls Tryd.prog 11 #[rtV r] w fun e w' => e = .returned (.tuple #[.string ⟨(encS r).toArray⟩, .bool r.ok]) ∧ Below w.heap.size w w' := by
  by_cases hz : r.ep = 0
  · have hn : r.ok = false := by unfold Rt.ok; rw [decide_eq_false (fun c => c hz)]; rfl
    rw [encS_no hn, hn]
    exact renc_zero r hw w hz
  · have hd : r.ok = r.fits := by unfold Rt.ok; rw [decide_eq_true hz]; rfl
    cases h0 : putB 4 r.ep
    · have hn : r.ok = false := by rw [hd]; unfold Rt.fits; simp [h0]
      rw [encS_no hn, hn]
      exact renc_no0 r hw w hz h0
    cases h1 : putB 4 r.pg
    · have hn : r.ok = false := by rw [hd]; unfold Rt.fits; simp [h1]
      rw [encS_no hn, hn]
      exact renc_no1 r hw w hz h0 h1
    cases h2 : putB 4 r.ct
    · have hn : r.ok = false := by rw [hd]; unfold Rt.fits; simp [h2]
      rw [encS_no hn, hn]
      exact renc_no2 r hw w hz h0 h1 h2
    cases h3 : putB 4 r.fr
    · have hn : r.ok = false := by rw [hd]; unfold Rt.fits; simp [h3]
      rw [encS_no hn, hn]
      exact renc_no3 r hw w hz h0 h1 h2 h3
    cases h4 : putB 4 r.nx
    · have hn : r.ok = false := by rw [hd]; unfold Rt.fits; simp [h4]
      rw [encS_no hn, hn]
      exact renc_no4 r hw w hz h0 h1 h2 h3 h4
    have hn : r.ok = true := by rw [hd]; unfold Rt.fits; simp [h0, h1, h2, h3, h4]
    rw [encS_ok hn, hn]
    exact renc_ok r hw w hz h0 h1 h2 h3 h4

theorem rdE_lt (s : List UInt8) (k : Nat) : rdE s k < 4294967296 := by
  have := beNat_take_le (s.drop k) 4 (Nat.le_refl _)
  unfold rdE
  omega
theorem rdR_wf (s : List UInt8) : (rdR s).wf := by
  have h0 := rdE_lt s 0
  have h1 := rdE_lt s 4
  have h2 := rdE_lt s 8
  have h3 := rdE_lt s 12
  have h4 := rdE_lt s 16
  exact ⟨by show rdE s 0 ≤ _; omega, by show rdE s 4 ≤ _; omega, by show rdE s 8 ≤ _; omega, by show rdE s 12 ≤ _; omega, by show rdE s 16 ≤ _; omega⟩
theorem refInt4 (s : ByteArray) (hz : s.size = 256) (k : Nat) (hk : k ≤ 16) (u : World) : Calls Tryd.prog 30 #[.string (s.extract k (k + 4))] u fun e w' => e = .returned (.int .i64 (rdE s.data.toList k)) ∧ u = w' := by
  have := refInt (s.extract k (k + 4)) u (by simp; omega)
  rw [extract_list s k (k + 4) (by omega), Nat.add_sub_cancel_left] at this
  exact this

set_option maxRecDepth 100000 in
set_option maxHeartbeats 1000000 in
theorem rdec_short (s : ByteArray) (hs : s.size ≤ maxLen) (hz : s.size ≠ 256) (w : World) : Calls Tryd.prog 13 #[.string s] w fun e w' => e = .returned (.tuple #[rtV rt0, .bool false]) ∧ Below w.heap.size w w' := by
  have hne : ((s.size : Int) != 256) = true := by rw [bne_iff_ne]; omega
  unfold maxLen at hs
  unfold rtV rt0
  dsimp only
  clear hz
  go_enter Tryd.func13, Tryd.ntmps13
  go_upto_region 2 with fail
  have N4 : Hid (Cl (w.alloc (.cells #[.int .i64 0, .int .i64 0, .int .i64 0, .int .i64 0, .int .i64 0] 23)) w.heap.size #[.int .i64 0, .int .i64 0, .int .i64 0, .int .i64 0, .int .i64 0] 23) := Cl.new w #[.int .i64 0, .int .i64 0, .int .i64 0, .int .i64 0, .int .i64 0] 23
  have B3 : Hid (Below w.heap.size w (w.alloc (.cells #[.int .i64 0, .int .i64 0, .int .i64 0, .int .i64 0, .int .i64 0] 23))) := (Below.refl _ _).alloc (Nat.le_refl _) _
  have L5 : Hid (w.heap.size ≤ w.heap.size) := Nat.le_refl _
  generalize w.alloc (.cells #[.int .i64 0, .int .i64 0, .int .i64 0, .int .i64 0, .int .i64 0] 23) = v1 at *
  obtain ⟨c6_0, c6_1, c6_2, c6_3, c6_4⟩ := N4.out.five
  have g7_0 := N4.out.frozen 0
  have g7_1 := N4.out.frozen 1
  have g7_2 := N4.out.frozen 2
  have g7_3 := N4.out.frozen 3
  have g7_4 := N4.out.frozen 4
  have N10 : Hid (Cl (((((v1.setCell ⟨w.heap.size, 0, none⟩ (.int .i64 0)).setCell ⟨w.heap.size, 1, none⟩ (.int .i64 0)).setCell ⟨w.heap.size, 2, none⟩ (.int .i64 0)).setCell ⟨w.heap.size, 3, none⟩ (.int .i64 0)).setCell ⟨w.heap.size, 4, none⟩ (.int .i64 0)) w.heap.size #[.int .i64 0, .int .i64 0, .int .i64 0, .int .i64 0, .int .i64 0] 23) := Cl.set5 N4.out _ _ _ _ _
  have B9 : Hid (Below w.heap.size w (((((v1.setCell ⟨w.heap.size, 0, none⟩ (.int .i64 0)).setCell ⟨w.heap.size, 1, none⟩ (.int .i64 0)).setCell ⟨w.heap.size, 2, none⟩ (.int .i64 0)).setCell ⟨w.heap.size, 3, none⟩ (.int .i64 0)).setCell ⟨w.heap.size, 4, none⟩ (.int .i64 0))) := B3.out.trans ((only_set5 v1 w.heap.size _ _ _ _ _).below L5.out)
  go_wp2
  (try simp only [Exit.inBlock, Exit.then])
  generalize ((((v1.setCell ⟨w.heap.size, 0, none⟩ (.int .i64 0)).setCell ⟨w.heap.size, 1, none⟩ (.int .i64 0)).setCell ⟨w.heap.size, 2, none⟩ (.int .i64 0)).setCell ⟨w.heap.size, 3, none⟩ (.int .i64 0)).setCell ⟨w.heap.size, 4, none⟩ (.int .i64 0) = v8 at *
  clear c6_0 c6_1 c6_2 c6_3 c6_4 g7_0 g7_1 g7_2 g7_3 g7_4
  obtain ⟨c11_0, c11_1, c11_2, c11_3, c11_4⟩ := N10.out.five
  refine bodyPost_ret (v := .tuple #[.agg #[.int .i64 0, .int .i64 0, .int .i64 0, .int .i64 0, .int .i64 0], .bool false]) ?_ rfl ⟨rfl, B9.out⟩
  · rw [results_cell_tmp rfl]
    go_simp

set_option maxRecDepth 100000 in
set_option maxHeartbeats 1000000 in
theorem rdec_yes (s : ByteArray) (hz : s.size = 256) (w : World) (h1 : (rdR s.data.toList).ok = true) (h2 : (⟨(slotL (rdR s.data.toList)).toArray⟩ : ByteArray) = s) : Calls Tryd.prog 13 #[.string s] w fun e w' => e = .returned (.tuple #[rtV (rdR s.data.toList), .bool true]) ∧ Below w.heap.size w w' := by
  have I0 : Hid (∀ u, Calls Tryd.prog 30 #[.string (s.extract 0 4)] u fun e w' => e = .returned (.int .i64 (rdE s.data.toList 0)) ∧ u = w') := fun u => refInt4 s hz 0 (by omega) u
  generalize hx0 : s.extract 0 4 = x0 at I0
  have I1 : Hid (∀ u, Calls Tryd.prog 30 #[.string (s.extract 4 8)] u fun e w' => e = .returned (.int .i64 (rdE s.data.toList 4)) ∧ u = w') := fun u => refInt4 s hz 4 (by omega) u
  generalize hx1 : s.extract 4 8 = x1 at I1
  have I2 : Hid (∀ u, Calls Tryd.prog 30 #[.string (s.extract 8 12)] u fun e w' => e = .returned (.int .i64 (rdE s.data.toList 8)) ∧ u = w') := fun u => refInt4 s hz 8 (by omega) u
  generalize hx2 : s.extract 8 12 = x2 at I2
  have I3 : Hid (∀ u, Calls Tryd.prog 30 #[.string (s.extract 12 16)] u fun e w' => e = .returned (.int .i64 (rdE s.data.toList 12)) ∧ u = w') := fun u => refInt4 s hz 12 (by omega) u
  generalize hx3 : s.extract 12 16 = x3 at I3
  have I4 : Hid (∀ u, Calls Tryd.prog 30 #[.string (s.extract 16 20)] u fun e w' => e = .returned (.int .i64 (rdE s.data.toList 16)) ∧ u = w') := fun u => refInt4 s hz 16 (by omega) u
  generalize hx4 : s.extract 16 20 = x4 at I4
  have C1 : Hid (∀ u, Calls Tryd.prog 11 #[rtV (rdR s.data.toList)] u fun e w' => e = .returned (.tuple #[.string s, .bool true]) ∧ Below u.heap.size u w') := fun u => by
    have := renc_any (rdR s.data.toList) (rdR_wf _) u
    rw [encS_ok h1, h2, h1] at this
    exact this
  clear h1 h2
  unfold rdR at *
  unfold rtV at *
  (try unfold rt0 at *)
  dsimp only at *
  generalize rdE s.data.toList 0 = n0 at *
  generalize rdE s.data.toList 4 = n1 at *
  generalize rdE s.data.toList 8 = n2 at *
  generalize rdE s.data.toList 12 = n3 at *
  generalize rdE s.data.toList 16 = n4 at *
  go_enter Tryd.func13, Tryd.ntmps13
  go_upto_region 3 with fail
  have N4 : Hid (Cl (w.alloc (.cells #[.int .i64 0, .int .i64 0, .int .i64 0, .int .i64 0, .int .i64 0] 23)) w.heap.size #[.int .i64 0, .int .i64 0, .int .i64 0, .int .i64 0, .int .i64 0] 23) := Cl.new w #[.int .i64 0, .int .i64 0, .int .i64 0, .int .i64 0, .int .i64 0] 23
  have B3 : Hid (Below w.heap.size w (w.alloc (.cells #[.int .i64 0, .int .i64 0, .int .i64 0, .int .i64 0, .int .i64 0] 23))) := (Below.refl _ _).alloc (Nat.le_refl _) _
  have L5 : Hid (w.heap.size ≤ w.heap.size) := Nat.le_refl _
  generalize w.alloc (.cells #[.int .i64 0, .int .i64 0, .int .i64 0, .int .i64 0, .int .i64 0] 23) = v1 at *
  go_cut [4] (fun t wx => t = .pointer (some ⟨v1.heap.size, 0, none⟩) ∧ wx = (v1.alloc (.cells #[.int .i64 n0, .int .i64 n1, .int .i64 n2, .int .i64 n3, .int .i64 n4] 23)).drew)
  case first =>
    go_region_held3 (fun _ => True) (trivial) ((first | (go_at_call_of 30 (Value.string x0); refine Calls.mono (I0.out _) ?_; rintro e u ⟨rfl, rfl⟩) | (go_at_call_of 30 (Value.string x1); refine Calls.mono (I1.out _) ?_; rintro e u ⟨rfl, rfl⟩) | (go_at_call_of 30 (Value.string x2); refine Calls.mono (I2.out _) ?_; rintro e u ⟨rfl, rfl⟩) | (go_at_call_of 30 (Value.string x3); refine Calls.mono (I3.out _) ?_; rintro e u ⟨rfl, rfl⟩) | (go_at_call_of 30 (Value.string x4); refine Calls.mono (I4.out _) ?_; rintro e u ⟨rfl, rfl⟩)))
    all_goals (go_wp2_with fail; go_meet; exact ⟨rfl, rfl⟩)
  case rest =>
  obtain ⟨rfl, rfl⟩ := hcut
  have N6 : Hid (Cl ((v1.alloc (.cells #[.int .i64 n0, .int .i64 n1, .int .i64 n2, .int .i64 n3, .int .i64 n4] 23)).drew) w.heap.size #[.int .i64 0, .int .i64 0, .int .i64 0, .int .i64 0, .int .i64 0] 23) := Cl.alloc N4.out _
  have N7 : Hid (Cl ((v1.alloc (.cells #[.int .i64 n0, .int .i64 n1, .int .i64 n2, .int .i64 n3, .int .i64 n4] 23)).drew) v1.heap.size #[.int .i64 n0, .int .i64 n1, .int .i64 n2, .int .i64 n3, .int .i64 n4] 23) := Cl.new v1 _ _
  have B8 : Hid (Below w.heap.size w ((v1.alloc (.cells #[.int .i64 n0, .int .i64 n1, .int .i64 n2, .int .i64 n3, .int .i64 n4] 23)).drew)) := (B3.out.alloc B3.out.size _).drew
  have L9 : Hid (w.heap.size ≤ v1.heap.size) := B3.out.size
  clear N4 B3
  generalize (v1.alloc (.cells #[.int .i64 n0, .int .i64 n1, .int .i64 n2, .int .i64 n3, .int .i64 n4] 23)).drew = v10 at *
  generalize v1.heap.size = q11 at *
  obtain ⟨c12_0, c12_1, c12_2, c12_3, c12_4⟩ := N7.out.five
  go_wp2_with fail
  clear c12_0 c12_1 c12_2 c12_3 c12_4
  refine Calls.mono (C1.out _) ?_
  rintro e v13 ⟨rfl, b14⟩
  have N16 : Hid (Cl v13 w.heap.size #[.int .i64 0, .int .i64 0, .int .i64 0, .int .i64 0, .int .i64 0] 23) := Cl.on N6.out b14
  have N17 : Hid (Cl v13 q11 #[.int .i64 n0, .int .i64 n1, .int .i64 n2, .int .i64 n3, .int .i64 n4] 23) := Cl.on N7.out b14
  have B15 : Hid (Below w.heap.size w v13) := B8.out.trans (b14.mono B8.out.size)
  clear b14 N6 N7 B8
  obtain ⟨c18_0, c18_1, c18_2, c18_3, c18_4⟩ := N17.out.five
  obtain ⟨c19_0, c19_1, c19_2, c19_3, c19_4⟩ := N16.out.five
  have g20_0 := N16.out.frozen 0
  have g20_1 := N16.out.frozen 1
  have g20_2 := N16.out.frozen 2
  have g20_3 := N16.out.frozen 3
  have g20_4 := N16.out.frozen 4
  have N23 : Hid (Cl (((((v13.setCell ⟨w.heap.size, 0, none⟩ (.int .i64 n0)).setCell ⟨w.heap.size, 1, none⟩ (.int .i64 n1)).setCell ⟨w.heap.size, 2, none⟩ (.int .i64 n2)).setCell ⟨w.heap.size, 3, none⟩ (.int .i64 n3)).setCell ⟨w.heap.size, 4, none⟩ (.int .i64 n4)) w.heap.size #[.int .i64 n0, .int .i64 n1, .int .i64 n2, .int .i64 n3, .int .i64 n4] 23) := Cl.set5 N16.out _ _ _ _ _
  have B22 : Hid (Below w.heap.size w (((((v13.setCell ⟨w.heap.size, 0, none⟩ (.int .i64 n0)).setCell ⟨w.heap.size, 1, none⟩ (.int .i64 n1)).setCell ⟨w.heap.size, 2, none⟩ (.int .i64 n2)).setCell ⟨w.heap.size, 3, none⟩ (.int .i64 n3)).setCell ⟨w.heap.size, 4, none⟩ (.int .i64 n4))) := B15.out.trans ((only_set5 v13 w.heap.size _ _ _ _ _).below L5.out)
  go_wp2
  (try simp only [Exit.inBlock, Exit.then])
  generalize ((((v13.setCell ⟨w.heap.size, 0, none⟩ (.int .i64 n0)).setCell ⟨w.heap.size, 1, none⟩ (.int .i64 n1)).setCell ⟨w.heap.size, 2, none⟩ (.int .i64 n2)).setCell ⟨w.heap.size, 3, none⟩ (.int .i64 n3)).setCell ⟨w.heap.size, 4, none⟩ (.int .i64 n4) = v21 at *
  clear c19_0 c19_1 c19_2 c19_3 c19_4 g20_0 g20_1 g20_2 g20_3 g20_4
  obtain ⟨c24_0, c24_1, c24_2, c24_3, c24_4⟩ := N23.out.five
  refine bodyPost_ret (v := .tuple #[.agg #[.int .i64 n0, .int .i64 n1, .int .i64 n2, .int .i64 n3, .int .i64 n4], .bool true]) ?_ rfl ⟨rfl, B22.out⟩
  · rw [results_cell_tmp rfl]
    go_simp

set_option maxRecDepth 100000 in
set_option maxHeartbeats 1000000 in
theorem rdec_other (s : ByteArray) (hz : s.size = 256) (w : World) (h1 : (rdR s.data.toList).ok = true) (h2 : ¬ (⟨(slotL (rdR s.data.toList)).toArray⟩ : ByteArray) = s) : Calls Tryd.prog 13 #[.string s] w fun e w' => e = .returned (.tuple #[rtV rt0, .bool false]) ∧ Below w.heap.size w w' := by
  have I0 : Hid (∀ u, Calls Tryd.prog 30 #[.string (s.extract 0 4)] u fun e w' => e = .returned (.int .i64 (rdE s.data.toList 0)) ∧ u = w') := fun u => refInt4 s hz 0 (by omega) u
  generalize hx0 : s.extract 0 4 = x0 at I0
  have I1 : Hid (∀ u, Calls Tryd.prog 30 #[.string (s.extract 4 8)] u fun e w' => e = .returned (.int .i64 (rdE s.data.toList 4)) ∧ u = w') := fun u => refInt4 s hz 4 (by omega) u
  generalize hx1 : s.extract 4 8 = x1 at I1
  have I2 : Hid (∀ u, Calls Tryd.prog 30 #[.string (s.extract 8 12)] u fun e w' => e = .returned (.int .i64 (rdE s.data.toList 8)) ∧ u = w') := fun u => refInt4 s hz 8 (by omega) u
  generalize hx2 : s.extract 8 12 = x2 at I2
  have I3 : Hid (∀ u, Calls Tryd.prog 30 #[.string (s.extract 12 16)] u fun e w' => e = .returned (.int .i64 (rdE s.data.toList 12)) ∧ u = w') := fun u => refInt4 s hz 12 (by omega) u
  generalize hx3 : s.extract 12 16 = x3 at I3
  have I4 : Hid (∀ u, Calls Tryd.prog 30 #[.string (s.extract 16 20)] u fun e w' => e = .returned (.int .i64 (rdE s.data.toList 16)) ∧ u = w') := fun u => refInt4 s hz 16 (by omega) u
  generalize hx4 : s.extract 16 20 = x4 at I4
  have C1 : Hid (∀ u, Calls Tryd.prog 11 #[rtV (rdR s.data.toList)] u fun e w' => e = .returned (.tuple #[.string ⟨(slotL (rdR s.data.toList)).toArray⟩, .bool true]) ∧ Below u.heap.size u w') := fun u => by
    have := renc_any (rdR s.data.toList) (rdR_wf _) u
    rw [encS_ok h1, h1] at this
    exact this
  have hne := str_ne h2
  generalize (⟨(slotL (rdR s.data.toList)).toArray⟩ : ByteArray) = A at *
  clear h1 h2
  unfold rdR at *
  unfold rtV at *
  (try unfold rt0 at *)
  dsimp only at *
  generalize rdE s.data.toList 0 = n0 at *
  generalize rdE s.data.toList 4 = n1 at *
  generalize rdE s.data.toList 8 = n2 at *
  generalize rdE s.data.toList 12 = n3 at *
  generalize rdE s.data.toList 16 = n4 at *
  go_enter Tryd.func13, Tryd.ntmps13
  go_upto_region 3 with fail
  have N4 : Hid (Cl (w.alloc (.cells #[.int .i64 0, .int .i64 0, .int .i64 0, .int .i64 0, .int .i64 0] 23)) w.heap.size #[.int .i64 0, .int .i64 0, .int .i64 0, .int .i64 0, .int .i64 0] 23) := Cl.new w #[.int .i64 0, .int .i64 0, .int .i64 0, .int .i64 0, .int .i64 0] 23
  have B3 : Hid (Below w.heap.size w (w.alloc (.cells #[.int .i64 0, .int .i64 0, .int .i64 0, .int .i64 0, .int .i64 0] 23))) := (Below.refl _ _).alloc (Nat.le_refl _) _
  have L5 : Hid (w.heap.size ≤ w.heap.size) := Nat.le_refl _
  generalize w.alloc (.cells #[.int .i64 0, .int .i64 0, .int .i64 0, .int .i64 0, .int .i64 0] 23) = v1 at *
  go_cut [4] (fun t wx => t = .pointer (some ⟨v1.heap.size, 0, none⟩) ∧ wx = (v1.alloc (.cells #[.int .i64 n0, .int .i64 n1, .int .i64 n2, .int .i64 n3, .int .i64 n4] 23)).drew)
  case first =>
    go_region_held3 (fun _ => True) (trivial) ((first | (go_at_call_of 30 (Value.string x0); refine Calls.mono (I0.out _) ?_; rintro e u ⟨rfl, rfl⟩) | (go_at_call_of 30 (Value.string x1); refine Calls.mono (I1.out _) ?_; rintro e u ⟨rfl, rfl⟩) | (go_at_call_of 30 (Value.string x2); refine Calls.mono (I2.out _) ?_; rintro e u ⟨rfl, rfl⟩) | (go_at_call_of 30 (Value.string x3); refine Calls.mono (I3.out _) ?_; rintro e u ⟨rfl, rfl⟩) | (go_at_call_of 30 (Value.string x4); refine Calls.mono (I4.out _) ?_; rintro e u ⟨rfl, rfl⟩)))
    all_goals (go_wp2_with fail; go_meet; exact ⟨rfl, rfl⟩)
  case rest =>
  obtain ⟨rfl, rfl⟩ := hcut
  have N6 : Hid (Cl ((v1.alloc (.cells #[.int .i64 n0, .int .i64 n1, .int .i64 n2, .int .i64 n3, .int .i64 n4] 23)).drew) w.heap.size #[.int .i64 0, .int .i64 0, .int .i64 0, .int .i64 0, .int .i64 0] 23) := Cl.alloc N4.out _
  have N7 : Hid (Cl ((v1.alloc (.cells #[.int .i64 n0, .int .i64 n1, .int .i64 n2, .int .i64 n3, .int .i64 n4] 23)).drew) v1.heap.size #[.int .i64 n0, .int .i64 n1, .int .i64 n2, .int .i64 n3, .int .i64 n4] 23) := Cl.new v1 _ _
  have B8 : Hid (Below w.heap.size w ((v1.alloc (.cells #[.int .i64 n0, .int .i64 n1, .int .i64 n2, .int .i64 n3, .int .i64 n4] 23)).drew)) := (B3.out.alloc B3.out.size _).drew
  have L9 : Hid (w.heap.size ≤ v1.heap.size) := B3.out.size
  clear N4 B3
  generalize (v1.alloc (.cells #[.int .i64 n0, .int .i64 n1, .int .i64 n2, .int .i64 n3, .int .i64 n4] 23)).drew = v10 at *
  generalize v1.heap.size = q11 at *
  obtain ⟨c12_0, c12_1, c12_2, c12_3, c12_4⟩ := N7.out.five
  go_wp2_with fail
  clear c12_0 c12_1 c12_2 c12_3 c12_4
  refine Calls.mono (C1.out _) ?_
  rintro e v13 ⟨rfl, b14⟩
  have N16 : Hid (Cl v13 w.heap.size #[.int .i64 0, .int .i64 0, .int .i64 0, .int .i64 0, .int .i64 0] 23) := Cl.on N6.out b14
  have N17 : Hid (Cl v13 q11 #[.int .i64 n0, .int .i64 n1, .int .i64 n2, .int .i64 n3, .int .i64 n4] 23) := Cl.on N7.out b14
  have B15 : Hid (Below w.heap.size w v13) := B8.out.trans (b14.mono B8.out.size)
  clear b14 N6 N7 B8
  obtain ⟨c18_0, c18_1, c18_2, c18_3, c18_4⟩ := N17.out.five
  obtain ⟨c19_0, c19_1, c19_2, c19_3, c19_4⟩ := N16.out.five
  have g20_0 := N16.out.frozen 0
  have g20_1 := N16.out.frozen 1
  have g20_2 := N16.out.frozen 2
  have g20_3 := N16.out.frozen 3
  have g20_4 := N16.out.frozen 4
  have N23 : Hid (Cl (((((v13.setCell ⟨w.heap.size, 0, none⟩ (.int .i64 0)).setCell ⟨w.heap.size, 1, none⟩ (.int .i64 0)).setCell ⟨w.heap.size, 2, none⟩ (.int .i64 0)).setCell ⟨w.heap.size, 3, none⟩ (.int .i64 0)).setCell ⟨w.heap.size, 4, none⟩ (.int .i64 0)) w.heap.size #[.int .i64 0, .int .i64 0, .int .i64 0, .int .i64 0, .int .i64 0] 23) := Cl.set5 N16.out _ _ _ _ _
  have B22 : Hid (Below w.heap.size w (((((v13.setCell ⟨w.heap.size, 0, none⟩ (.int .i64 0)).setCell ⟨w.heap.size, 1, none⟩ (.int .i64 0)).setCell ⟨w.heap.size, 2, none⟩ (.int .i64 0)).setCell ⟨w.heap.size, 3, none⟩ (.int .i64 0)).setCell ⟨w.heap.size, 4, none⟩ (.int .i64 0))) := B15.out.trans ((only_set5 v13 w.heap.size _ _ _ _ _).below L5.out)
  go_wp2
  (try simp only [Exit.inBlock, Exit.then])
  generalize ((((v13.setCell ⟨w.heap.size, 0, none⟩ (.int .i64 0)).setCell ⟨w.heap.size, 1, none⟩ (.int .i64 0)).setCell ⟨w.heap.size, 2, none⟩ (.int .i64 0)).setCell ⟨w.heap.size, 3, none⟩ (.int .i64 0)).setCell ⟨w.heap.size, 4, none⟩ (.int .i64 0) = v21 at *
  clear c19_0 c19_1 c19_2 c19_3 c19_4 g20_0 g20_1 g20_2 g20_3 g20_4
  obtain ⟨c24_0, c24_1, c24_2, c24_3, c24_4⟩ := N23.out.five
  refine bodyPost_ret (v := .tuple #[.agg #[.int .i64 0, .int .i64 0, .int .i64 0, .int .i64 0, .int .i64 0], .bool false]) ?_ rfl ⟨rfl, B22.out⟩
  · rw [results_cell_tmp rfl]
    go_simp

set_option maxRecDepth 100000 in
set_option maxHeartbeats 1000000 in
theorem rdec_refused (s : ByteArray) (hz : s.size = 256) (w : World) (h1 : (rdR s.data.toList).ok = false) : Calls Tryd.prog 13 #[.string s] w fun e w' => e = .returned (.tuple #[rtV rt0, .bool false]) ∧ Below w.heap.size w w' := by
  have I0 : Hid (∀ u, Calls Tryd.prog 30 #[.string (s.extract 0 4)] u fun e w' => e = .returned (.int .i64 (rdE s.data.toList 0)) ∧ u = w') := fun u => refInt4 s hz 0 (by omega) u
  generalize hx0 : s.extract 0 4 = x0 at I0
  have I1 : Hid (∀ u, Calls Tryd.prog 30 #[.string (s.extract 4 8)] u fun e w' => e = .returned (.int .i64 (rdE s.data.toList 4)) ∧ u = w') := fun u => refInt4 s hz 4 (by omega) u
  generalize hx1 : s.extract 4 8 = x1 at I1
  have I2 : Hid (∀ u, Calls Tryd.prog 30 #[.string (s.extract 8 12)] u fun e w' => e = .returned (.int .i64 (rdE s.data.toList 8)) ∧ u = w') := fun u => refInt4 s hz 8 (by omega) u
  generalize hx2 : s.extract 8 12 = x2 at I2
  have I3 : Hid (∀ u, Calls Tryd.prog 30 #[.string (s.extract 12 16)] u fun e w' => e = .returned (.int .i64 (rdE s.data.toList 12)) ∧ u = w') := fun u => refInt4 s hz 12 (by omega) u
  generalize hx3 : s.extract 12 16 = x3 at I3
  have I4 : Hid (∀ u, Calls Tryd.prog 30 #[.string (s.extract 16 20)] u fun e w' => e = .returned (.int .i64 (rdE s.data.toList 16)) ∧ u = w') := fun u => refInt4 s hz 16 (by omega) u
  generalize hx4 : s.extract 16 20 = x4 at I4
  have C1 : Hid (∀ u, Calls Tryd.prog 11 #[rtV (rdR s.data.toList)] u fun e w' => e = .returned (.tuple #[.string ⟨#[]⟩, .bool false]) ∧ Below u.heap.size u w') := fun u => by
    have := renc_any (rdR s.data.toList) (rdR_wf _) u
    rw [encS_no h1, h1] at this
    exact this
  clear h1
  unfold rdR at *
  unfold rtV at *
  (try unfold rt0 at *)
  dsimp only at *
  generalize rdE s.data.toList 0 = n0 at *
  generalize rdE s.data.toList 4 = n1 at *
  generalize rdE s.data.toList 8 = n2 at *
  generalize rdE s.data.toList 12 = n3 at *
  generalize rdE s.data.toList 16 = n4 at *
  go_enter Tryd.func13, Tryd.ntmps13
  go_upto_region 3 with fail
  have N4 : Hid (Cl (w.alloc (.cells #[.int .i64 0, .int .i64 0, .int .i64 0, .int .i64 0, .int .i64 0] 23)) w.heap.size #[.int .i64 0, .int .i64 0, .int .i64 0, .int .i64 0, .int .i64 0] 23) := Cl.new w #[.int .i64 0, .int .i64 0, .int .i64 0, .int .i64 0, .int .i64 0] 23
  have B3 : Hid (Below w.heap.size w (w.alloc (.cells #[.int .i64 0, .int .i64 0, .int .i64 0, .int .i64 0, .int .i64 0] 23))) := (Below.refl _ _).alloc (Nat.le_refl _) _
  have L5 : Hid (w.heap.size ≤ w.heap.size) := Nat.le_refl _
  generalize w.alloc (.cells #[.int .i64 0, .int .i64 0, .int .i64 0, .int .i64 0, .int .i64 0] 23) = v1 at *
  go_cut [4] (fun t wx => t = .pointer (some ⟨v1.heap.size, 0, none⟩) ∧ wx = (v1.alloc (.cells #[.int .i64 n0, .int .i64 n1, .int .i64 n2, .int .i64 n3, .int .i64 n4] 23)).drew)
  case first =>
    go_region_held3 (fun _ => True) (trivial) ((first | (go_at_call_of 30 (Value.string x0); refine Calls.mono (I0.out _) ?_; rintro e u ⟨rfl, rfl⟩) | (go_at_call_of 30 (Value.string x1); refine Calls.mono (I1.out _) ?_; rintro e u ⟨rfl, rfl⟩) | (go_at_call_of 30 (Value.string x2); refine Calls.mono (I2.out _) ?_; rintro e u ⟨rfl, rfl⟩) | (go_at_call_of 30 (Value.string x3); refine Calls.mono (I3.out _) ?_; rintro e u ⟨rfl, rfl⟩) | (go_at_call_of 30 (Value.string x4); refine Calls.mono (I4.out _) ?_; rintro e u ⟨rfl, rfl⟩)))
    all_goals (go_wp2_with fail; go_meet; exact ⟨rfl, rfl⟩)
  case rest =>
  obtain ⟨rfl, rfl⟩ := hcut
  have N6 : Hid (Cl ((v1.alloc (.cells #[.int .i64 n0, .int .i64 n1, .int .i64 n2, .int .i64 n3, .int .i64 n4] 23)).drew) w.heap.size #[.int .i64 0, .int .i64 0, .int .i64 0, .int .i64 0, .int .i64 0] 23) := Cl.alloc N4.out _
  have N7 : Hid (Cl ((v1.alloc (.cells #[.int .i64 n0, .int .i64 n1, .int .i64 n2, .int .i64 n3, .int .i64 n4] 23)).drew) v1.heap.size #[.int .i64 n0, .int .i64 n1, .int .i64 n2, .int .i64 n3, .int .i64 n4] 23) := Cl.new v1 _ _
  have B8 : Hid (Below w.heap.size w ((v1.alloc (.cells #[.int .i64 n0, .int .i64 n1, .int .i64 n2, .int .i64 n3, .int .i64 n4] 23)).drew)) := (B3.out.alloc B3.out.size _).drew
  have L9 : Hid (w.heap.size ≤ v1.heap.size) := B3.out.size
  clear N4 B3
  generalize (v1.alloc (.cells #[.int .i64 n0, .int .i64 n1, .int .i64 n2, .int .i64 n3, .int .i64 n4] 23)).drew = v10 at *
  generalize v1.heap.size = q11 at *
  obtain ⟨c12_0, c12_1, c12_2, c12_3, c12_4⟩ := N7.out.five
  go_wp2_with fail
  clear c12_0 c12_1 c12_2 c12_3 c12_4
  refine Calls.mono (C1.out _) ?_
  rintro e v13 ⟨rfl, b14⟩
  have N16 : Hid (Cl v13 w.heap.size #[.int .i64 0, .int .i64 0, .int .i64 0, .int .i64 0, .int .i64 0] 23) := Cl.on N6.out b14
  have N17 : Hid (Cl v13 q11 #[.int .i64 n0, .int .i64 n1, .int .i64 n2, .int .i64 n3, .int .i64 n4] 23) := Cl.on N7.out b14
  have B15 : Hid (Below w.heap.size w v13) := B8.out.trans (b14.mono B8.out.size)
  clear b14 N6 N7 B8
  obtain ⟨c18_0, c18_1, c18_2, c18_3, c18_4⟩ := N17.out.five
  obtain ⟨c19_0, c19_1, c19_2, c19_3, c19_4⟩ := N16.out.five
  have g20_0 := N16.out.frozen 0
  have g20_1 := N16.out.frozen 1
  have g20_2 := N16.out.frozen 2
  have g20_3 := N16.out.frozen 3
  have g20_4 := N16.out.frozen 4
  have N23 : Hid (Cl (((((v13.setCell ⟨w.heap.size, 0, none⟩ (.int .i64 0)).setCell ⟨w.heap.size, 1, none⟩ (.int .i64 0)).setCell ⟨w.heap.size, 2, none⟩ (.int .i64 0)).setCell ⟨w.heap.size, 3, none⟩ (.int .i64 0)).setCell ⟨w.heap.size, 4, none⟩ (.int .i64 0)) w.heap.size #[.int .i64 0, .int .i64 0, .int .i64 0, .int .i64 0, .int .i64 0] 23) := Cl.set5 N16.out _ _ _ _ _
  have B22 : Hid (Below w.heap.size w (((((v13.setCell ⟨w.heap.size, 0, none⟩ (.int .i64 0)).setCell ⟨w.heap.size, 1, none⟩ (.int .i64 0)).setCell ⟨w.heap.size, 2, none⟩ (.int .i64 0)).setCell ⟨w.heap.size, 3, none⟩ (.int .i64 0)).setCell ⟨w.heap.size, 4, none⟩ (.int .i64 0))) := B15.out.trans ((only_set5 v13 w.heap.size _ _ _ _ _).below L5.out)
  go_wp2
  (try simp only [Exit.inBlock, Exit.then])
  generalize ((((v13.setCell ⟨w.heap.size, 0, none⟩ (.int .i64 0)).setCell ⟨w.heap.size, 1, none⟩ (.int .i64 0)).setCell ⟨w.heap.size, 2, none⟩ (.int .i64 0)).setCell ⟨w.heap.size, 3, none⟩ (.int .i64 0)).setCell ⟨w.heap.size, 4, none⟩ (.int .i64 0) = v21 at *
  clear c19_0 c19_1 c19_2 c19_3 c19_4 g20_0 g20_1 g20_2 g20_3 g20_4
  obtain ⟨c24_0, c24_1, c24_2, c24_3, c24_4⟩ := N23.out.five
  refine bodyPost_ret (v := .tuple #[.agg #[.int .i64 0, .int .i64 0, .int .i64 0, .int .i64 0, .int .i64 0], .bool false]) ?_ rfl ⟨rfl, B22.out⟩
  · rw [results_cell_tmp rfl]
    go_simp

theorem rdec_any (s : ByteArray) (hs : s.size ≤ maxLen) (w : World) : Calls Tryd.prog 13 #[.string s] w fun e w' => e = .returned (.tuple #[rtV (decR s.data.toList), .bool (decB s.data.toList)]) ∧ Below w.heap.size w w' := by
  have hb := dec_by (rdR s.data.toList) s.data.toList (fun r h e => by rw [e, rdR_slot h])
  by_cases hz : s.size = 256
  · cases h1 : (rdR s.data.toList).ok
    · have hn := hb.2 (fun c => by rw [h1] at c; cases c.1)
      rw [decR_no hn, hn]
      exact rdec_refused s hz w h1
    · by_cases h2 : (⟨(slotL (rdR s.data.toList)).toArray⟩ : ByteArray) = s
      · have hy := hb.1 ⟨h1, by rw [encS_ok h1]; conv => rhs; rw [← h2]⟩
        rw [hy.1, hy.2]
        exact rdec_yes s hz w h1 h2
      · have hn := hb.2 (fun c => h2 (by rw [← encS_ok h1, c.2]))
        rw [decR_no hn, hn]
        exact rdec_other s hz w h1 h2
  · have hn := dec_len (s := s.data.toList) (by simpa using hz)
    rw [decR_no hn, hn]
    exact rdec_short s hs hz w

set_option maxRecDepth 100000 in
set_option maxHeartbeats 1000000 in
theorem rpick_none {a b : ByteArray} {x y : Rt} {p q : Bool} (w : World) (K1 : ∀ u, Calls Tryd.prog 13 #[.string a] u fun e w' => e = .returned (.tuple #[rtV x, .bool p]) ∧ Below u.heap.size u w') (K2 : ∀ u, Calls Tryd.prog 13 #[.string b] u fun e w' => e = .returned (.tuple #[rtV y, .bool q]) ∧ Below u.heap.size u w') (hp : p = false) (hq : q = false) : Calls Tryd.prog 15 #[.string a, .string b] w fun e w' => e = .returned (.tuple #[rtV rt0, .int .i64 70]) ∧ Below w.heap.size w w' := by
  have C1 : Hid _ := K1
  have C2 : Hid _ := K2
  subst hp hq
  clear K1 K2
  obtain ⟨n0, n1, n2, n3, n4⟩ := x
  obtain ⟨m0, m1, m2, m3, m4⟩ := y
  unfold rtV at *
  (try unfold rt0 at *)
  dsimp only at *
  go_enter Tryd.func15, Tryd.ntmps15
  go_wp2_with fail
  have N4 : Hid (Cl (w.alloc (.cells #[.int .i64 0, .int .i64 0, .int .i64 0, .int .i64 0, .int .i64 0] 23)) w.heap.size #[.int .i64 0, .int .i64 0, .int .i64 0, .int .i64 0, .int .i64 0] 23) := Cl.new w #[.int .i64 0, .int .i64 0, .int .i64 0, .int .i64 0, .int .i64 0] 23
  have B3 : Hid (Below w.heap.size w (w.alloc (.cells #[.int .i64 0, .int .i64 0, .int .i64 0, .int .i64 0, .int .i64 0] 23))) := (Below.refl _ _).alloc (Nat.le_refl _) _
  have L5 : Hid (w.heap.size ≤ w.heap.size) := Nat.le_refl _
  generalize w.alloc (.cells #[.int .i64 0, .int .i64 0, .int .i64 0, .int .i64 0, .int .i64 0] 23) = v1 at *
  refine Calls.mono (C1.out _) ?_
  rintro e v6 ⟨rfl, b7⟩
  have N9 : Hid (Cl v6 w.heap.size #[.int .i64 0, .int .i64 0, .int .i64 0, .int .i64 0, .int .i64 0] 23) := Cl.on N4.out b7
  have B8 : Hid (Below w.heap.size w v6) := B3.out.trans (b7.mono B3.out.size)
  clear b7 N4 B3
  go_wp2_with fail
  have N13 : Hid (Cl (v6.alloc (.cells #[.int .i64 n0, .int .i64 n1, .int .i64 n2, .int .i64 n3, .int .i64 n4] 23)) v6.heap.size #[.int .i64 n0, .int .i64 n1, .int .i64 n2, .int .i64 n3, .int .i64 n4] 23) := Cl.new v6 #[.int .i64 n0, .int .i64 n1, .int .i64 n2, .int .i64 n3, .int .i64 n4] 23
  have B12 : Hid (Below w.heap.size w (v6.alloc (.cells #[.int .i64 n0, .int .i64 n1, .int .i64 n2, .int .i64 n3, .int .i64 n4] 23))) := B8.out.alloc B8.out.size _
  have L14 : Hid (w.heap.size ≤ v6.heap.size) := B8.out.size
  have N15 : Hid (Cl (v6.alloc (.cells #[.int .i64 n0, .int .i64 n1, .int .i64 n2, .int .i64 n3, .int .i64 n4] 23)) w.heap.size #[.int .i64 0, .int .i64 0, .int .i64 0, .int .i64 0, .int .i64 0] 23) := Cl.alloc N9.out _
  clear N9 B8
  generalize v6.alloc (.cells #[.int .i64 n0, .int .i64 n1, .int .i64 n2, .int .i64 n3, .int .i64 n4] 23) = v10 at *
  generalize v6.heap.size = q11 at *
  refine Calls.mono (C2.out _) ?_
  rintro e v16 ⟨rfl, b17⟩
  have N19 : Hid (Cl v16 w.heap.size #[.int .i64 0, .int .i64 0, .int .i64 0, .int .i64 0, .int .i64 0] 23) := Cl.on N15.out b17
  have N20 : Hid (Cl v16 q11 #[.int .i64 n0, .int .i64 n1, .int .i64 n2, .int .i64 n3, .int .i64 n4] 23) := Cl.on N13.out b17
  have B18 : Hid (Below w.heap.size w v16) := B12.out.trans (b17.mono B12.out.size)
  clear b17 N15 N13 B12
  go_upto_region 3 with fail
  have N24 : Hid (Cl (v16.alloc (.cells #[.int .i64 m0, .int .i64 m1, .int .i64 m2, .int .i64 m3, .int .i64 m4] 23)) v16.heap.size #[.int .i64 m0, .int .i64 m1, .int .i64 m2, .int .i64 m3, .int .i64 m4] 23) := Cl.new v16 #[.int .i64 m0, .int .i64 m1, .int .i64 m2, .int .i64 m3, .int .i64 m4] 23
  have B23 : Hid (Below w.heap.size w (v16.alloc (.cells #[.int .i64 m0, .int .i64 m1, .int .i64 m2, .int .i64 m3, .int .i64 m4] 23))) := B18.out.alloc B18.out.size _
  have L25 : Hid (w.heap.size ≤ v16.heap.size) := B18.out.size
  have N26 : Hid (Cl (v16.alloc (.cells #[.int .i64 m0, .int .i64 m1, .int .i64 m2, .int .i64 m3, .int .i64 m4] 23)) w.heap.size #[.int .i64 0, .int .i64 0, .int .i64 0, .int .i64 0, .int .i64 0] 23) := Cl.alloc N19.out _
  have N27 : Hid (Cl (v16.alloc (.cells #[.int .i64 m0, .int .i64 m1, .int .i64 m2, .int .i64 m3, .int .i64 m4] 23)) q11 #[.int .i64 n0, .int .i64 n1, .int .i64 n2, .int .i64 n3, .int .i64 n4] 23) := Cl.alloc N20.out _
  clear N19 N20 B18
  generalize v16.alloc (.cells #[.int .i64 m0, .int .i64 m1, .int .i64 m2, .int .i64 m3, .int .i64 m4] 23) = v21 at *
  generalize v16.heap.size = q22 at *
  obtain ⟨c28_0, c28_1, c28_2, c28_3, c28_4⟩ := N27.out.five
  obtain ⟨c29_0, c29_1, c29_2, c29_3, c29_4⟩ := N24.out.five
  obtain ⟨c30_0, c30_1, c30_2, c30_3, c30_4⟩ := N26.out.five
  have g31_0 := N26.out.frozen 0
  have g31_1 := N26.out.frozen 1
  have g31_2 := N26.out.frozen 2
  have g31_3 := N26.out.frozen 3
  have g31_4 := N26.out.frozen 4
  have N34 : Hid (Cl (((((v21.setCell ⟨w.heap.size, 0, none⟩ (.int .i64 0)).setCell ⟨w.heap.size, 1, none⟩ (.int .i64 0)).setCell ⟨w.heap.size, 2, none⟩ (.int .i64 0)).setCell ⟨w.heap.size, 3, none⟩ (.int .i64 0)).setCell ⟨w.heap.size, 4, none⟩ (.int .i64 0)) w.heap.size #[.int .i64 0, .int .i64 0, .int .i64 0, .int .i64 0, .int .i64 0] 23) := Cl.set5 N26.out _ _ _ _ _
  have B33 : Hid (Below w.heap.size w (((((v21.setCell ⟨w.heap.size, 0, none⟩ (.int .i64 0)).setCell ⟨w.heap.size, 1, none⟩ (.int .i64 0)).setCell ⟨w.heap.size, 2, none⟩ (.int .i64 0)).setCell ⟨w.heap.size, 3, none⟩ (.int .i64 0)).setCell ⟨w.heap.size, 4, none⟩ (.int .i64 0))) := B23.out.trans ((only_set5 v21 w.heap.size _ _ _ _ _).below L5.out)
  go_wp2
  (try simp only [Exit.inBlock, Exit.then])
  generalize ((((v21.setCell ⟨w.heap.size, 0, none⟩ (.int .i64 0)).setCell ⟨w.heap.size, 1, none⟩ (.int .i64 0)).setCell ⟨w.heap.size, 2, none⟩ (.int .i64 0)).setCell ⟨w.heap.size, 3, none⟩ (.int .i64 0)).setCell ⟨w.heap.size, 4, none⟩ (.int .i64 0) = v32 at *
  clear c30_0 c30_1 c30_2 c30_3 c30_4 g31_0 g31_1 g31_2 g31_3 g31_4
  obtain ⟨c35_0, c35_1, c35_2, c35_3, c35_4⟩ := N34.out.five
  refine bodyPost_ret (v := .tuple #[.agg #[.int .i64 0, .int .i64 0, .int .i64 0, .int .i64 0, .int .i64 0], .int .i64 70]) ?_ rfl ⟨rfl, B33.out⟩
  · rw [results_cell_tmp rfl]
    go_simp

set_option maxRecDepth 100000 in
set_option maxHeartbeats 1000000 in
theorem rpick_second {a b : ByteArray} {x y : Rt} {p q : Bool} (w : World) (K1 : ∀ u, Calls Tryd.prog 13 #[.string a] u fun e w' => e = .returned (.tuple #[rtV x, .bool p]) ∧ Below u.heap.size u w') (K2 : ∀ u, Calls Tryd.prog 13 #[.string b] u fun e w' => e = .returned (.tuple #[rtV y, .bool q]) ∧ Below u.heap.size u w') (hp : p = false) (hq : q = true) : Calls Tryd.prog 15 #[.string a, .string b] w fun e w' => e = .returned (.tuple #[rtV y, .int .i64 0]) ∧ Below w.heap.size w w' := by
  have C1 : Hid _ := K1
  have C2 : Hid _ := K2
  subst hp hq
  clear K1 K2
  obtain ⟨n0, n1, n2, n3, n4⟩ := x
  obtain ⟨m0, m1, m2, m3, m4⟩ := y
  unfold rtV at *
  (try unfold rt0 at *)
  dsimp only at *
  go_enter Tryd.func15, Tryd.ntmps15
  go_wp2_with fail
  have N4 : Hid (Cl (w.alloc (.cells #[.int .i64 0, .int .i64 0, .int .i64 0, .int .i64 0, .int .i64 0] 23)) w.heap.size #[.int .i64 0, .int .i64 0, .int .i64 0, .int .i64 0, .int .i64 0] 23) := Cl.new w #[.int .i64 0, .int .i64 0, .int .i64 0, .int .i64 0, .int .i64 0] 23
  have B3 : Hid (Below w.heap.size w (w.alloc (.cells #[.int .i64 0, .int .i64 0, .int .i64 0, .int .i64 0, .int .i64 0] 23))) := (Below.refl _ _).alloc (Nat.le_refl _) _
  have L5 : Hid (w.heap.size ≤ w.heap.size) := Nat.le_refl _
  generalize w.alloc (.cells #[.int .i64 0, .int .i64 0, .int .i64 0, .int .i64 0, .int .i64 0] 23) = v1 at *
  refine Calls.mono (C1.out _) ?_
  rintro e v6 ⟨rfl, b7⟩
  have N9 : Hid (Cl v6 w.heap.size #[.int .i64 0, .int .i64 0, .int .i64 0, .int .i64 0, .int .i64 0] 23) := Cl.on N4.out b7
  have B8 : Hid (Below w.heap.size w v6) := B3.out.trans (b7.mono B3.out.size)
  clear b7 N4 B3
  go_wp2_with fail
  have N13 : Hid (Cl (v6.alloc (.cells #[.int .i64 n0, .int .i64 n1, .int .i64 n2, .int .i64 n3, .int .i64 n4] 23)) v6.heap.size #[.int .i64 n0, .int .i64 n1, .int .i64 n2, .int .i64 n3, .int .i64 n4] 23) := Cl.new v6 #[.int .i64 n0, .int .i64 n1, .int .i64 n2, .int .i64 n3, .int .i64 n4] 23
  have B12 : Hid (Below w.heap.size w (v6.alloc (.cells #[.int .i64 n0, .int .i64 n1, .int .i64 n2, .int .i64 n3, .int .i64 n4] 23))) := B8.out.alloc B8.out.size _
  have L14 : Hid (w.heap.size ≤ v6.heap.size) := B8.out.size
  have N15 : Hid (Cl (v6.alloc (.cells #[.int .i64 n0, .int .i64 n1, .int .i64 n2, .int .i64 n3, .int .i64 n4] 23)) w.heap.size #[.int .i64 0, .int .i64 0, .int .i64 0, .int .i64 0, .int .i64 0] 23) := Cl.alloc N9.out _
  clear N9 B8
  generalize v6.alloc (.cells #[.int .i64 n0, .int .i64 n1, .int .i64 n2, .int .i64 n3, .int .i64 n4] 23) = v10 at *
  generalize v6.heap.size = q11 at *
  refine Calls.mono (C2.out _) ?_
  rintro e v16 ⟨rfl, b17⟩
  have N19 : Hid (Cl v16 w.heap.size #[.int .i64 0, .int .i64 0, .int .i64 0, .int .i64 0, .int .i64 0] 23) := Cl.on N15.out b17
  have N20 : Hid (Cl v16 q11 #[.int .i64 n0, .int .i64 n1, .int .i64 n2, .int .i64 n3, .int .i64 n4] 23) := Cl.on N13.out b17
  have B18 : Hid (Below w.heap.size w v16) := B12.out.trans (b17.mono B12.out.size)
  clear b17 N15 N13 B12
  go_upto_region 3 with fail
  have N24 : Hid (Cl (v16.alloc (.cells #[.int .i64 m0, .int .i64 m1, .int .i64 m2, .int .i64 m3, .int .i64 m4] 23)) v16.heap.size #[.int .i64 m0, .int .i64 m1, .int .i64 m2, .int .i64 m3, .int .i64 m4] 23) := Cl.new v16 #[.int .i64 m0, .int .i64 m1, .int .i64 m2, .int .i64 m3, .int .i64 m4] 23
  have B23 : Hid (Below w.heap.size w (v16.alloc (.cells #[.int .i64 m0, .int .i64 m1, .int .i64 m2, .int .i64 m3, .int .i64 m4] 23))) := B18.out.alloc B18.out.size _
  have L25 : Hid (w.heap.size ≤ v16.heap.size) := B18.out.size
  have N26 : Hid (Cl (v16.alloc (.cells #[.int .i64 m0, .int .i64 m1, .int .i64 m2, .int .i64 m3, .int .i64 m4] 23)) w.heap.size #[.int .i64 0, .int .i64 0, .int .i64 0, .int .i64 0, .int .i64 0] 23) := Cl.alloc N19.out _
  have N27 : Hid (Cl (v16.alloc (.cells #[.int .i64 m0, .int .i64 m1, .int .i64 m2, .int .i64 m3, .int .i64 m4] 23)) q11 #[.int .i64 n0, .int .i64 n1, .int .i64 n2, .int .i64 n3, .int .i64 n4] 23) := Cl.alloc N20.out _
  clear N19 N20 B18
  generalize v16.alloc (.cells #[.int .i64 m0, .int .i64 m1, .int .i64 m2, .int .i64 m3, .int .i64 m4] 23) = v21 at *
  generalize v16.heap.size = q22 at *
  obtain ⟨c28_0, c28_1, c28_2, c28_3, c28_4⟩ := N27.out.five
  obtain ⟨c29_0, c29_1, c29_2, c29_3, c29_4⟩ := N24.out.five
  obtain ⟨c30_0, c30_1, c30_2, c30_3, c30_4⟩ := N26.out.five
  have g31_0 := N26.out.frozen 0
  have g31_1 := N26.out.frozen 1
  have g31_2 := N26.out.frozen 2
  have g31_3 := N26.out.frozen 3
  have g31_4 := N26.out.frozen 4
  have N34 : Hid (Cl (((((v21.setCell ⟨w.heap.size, 0, none⟩ (.int .i64 m0)).setCell ⟨w.heap.size, 1, none⟩ (.int .i64 m1)).setCell ⟨w.heap.size, 2, none⟩ (.int .i64 m2)).setCell ⟨w.heap.size, 3, none⟩ (.int .i64 m3)).setCell ⟨w.heap.size, 4, none⟩ (.int .i64 m4)) w.heap.size #[.int .i64 m0, .int .i64 m1, .int .i64 m2, .int .i64 m3, .int .i64 m4] 23) := Cl.set5 N26.out _ _ _ _ _
  have B33 : Hid (Below w.heap.size w (((((v21.setCell ⟨w.heap.size, 0, none⟩ (.int .i64 m0)).setCell ⟨w.heap.size, 1, none⟩ (.int .i64 m1)).setCell ⟨w.heap.size, 2, none⟩ (.int .i64 m2)).setCell ⟨w.heap.size, 3, none⟩ (.int .i64 m3)).setCell ⟨w.heap.size, 4, none⟩ (.int .i64 m4))) := B23.out.trans ((only_set5 v21 w.heap.size _ _ _ _ _).below L5.out)
  go_wp2
  (try simp only [Exit.inBlock, Exit.then])
  generalize ((((v21.setCell ⟨w.heap.size, 0, none⟩ (.int .i64 m0)).setCell ⟨w.heap.size, 1, none⟩ (.int .i64 m1)).setCell ⟨w.heap.size, 2, none⟩ (.int .i64 m2)).setCell ⟨w.heap.size, 3, none⟩ (.int .i64 m3)).setCell ⟨w.heap.size, 4, none⟩ (.int .i64 m4) = v32 at *
  clear c30_0 c30_1 c30_2 c30_3 c30_4 g31_0 g31_1 g31_2 g31_3 g31_4
  obtain ⟨c35_0, c35_1, c35_2, c35_3, c35_4⟩ := N34.out.five
  refine bodyPost_ret (v := .tuple #[.agg #[.int .i64 m0, .int .i64 m1, .int .i64 m2, .int .i64 m3, .int .i64 m4], .int .i64 0]) ?_ rfl ⟨rfl, B33.out⟩
  · rw [results_cell_tmp rfl]
    go_simp

set_option maxRecDepth 100000 in
set_option maxHeartbeats 1000000 in
theorem rpick_first {a b : ByteArray} {x y : Rt} {p q : Bool} (w : World) (K1 : ∀ u, Calls Tryd.prog 13 #[.string a] u fun e w' => e = .returned (.tuple #[rtV x, .bool p]) ∧ Below u.heap.size u w') (K2 : ∀ u, Calls Tryd.prog 13 #[.string b] u fun e w' => e = .returned (.tuple #[rtV y, .bool q]) ∧ Below u.heap.size u w') (hp : p = true) (hq : q = false) : Calls Tryd.prog 15 #[.string a, .string b] w fun e w' => e = .returned (.tuple #[rtV x, .int .i64 0]) ∧ Below w.heap.size w w' := by
  have C1 : Hid _ := K1
  have C2 : Hid _ := K2
  subst hp hq
  clear K1 K2
  obtain ⟨n0, n1, n2, n3, n4⟩ := x
  obtain ⟨m0, m1, m2, m3, m4⟩ := y
  unfold rtV at *
  (try unfold rt0 at *)
  dsimp only at *
  go_enter Tryd.func15, Tryd.ntmps15
  go_wp2_with fail
  have N4 : Hid (Cl (w.alloc (.cells #[.int .i64 0, .int .i64 0, .int .i64 0, .int .i64 0, .int .i64 0] 23)) w.heap.size #[.int .i64 0, .int .i64 0, .int .i64 0, .int .i64 0, .int .i64 0] 23) := Cl.new w #[.int .i64 0, .int .i64 0, .int .i64 0, .int .i64 0, .int .i64 0] 23
  have B3 : Hid (Below w.heap.size w (w.alloc (.cells #[.int .i64 0, .int .i64 0, .int .i64 0, .int .i64 0, .int .i64 0] 23))) := (Below.refl _ _).alloc (Nat.le_refl _) _
  have L5 : Hid (w.heap.size ≤ w.heap.size) := Nat.le_refl _
  generalize w.alloc (.cells #[.int .i64 0, .int .i64 0, .int .i64 0, .int .i64 0, .int .i64 0] 23) = v1 at *
  refine Calls.mono (C1.out _) ?_
  rintro e v6 ⟨rfl, b7⟩
  have N9 : Hid (Cl v6 w.heap.size #[.int .i64 0, .int .i64 0, .int .i64 0, .int .i64 0, .int .i64 0] 23) := Cl.on N4.out b7
  have B8 : Hid (Below w.heap.size w v6) := B3.out.trans (b7.mono B3.out.size)
  clear b7 N4 B3
  go_wp2_with fail
  have N13 : Hid (Cl (v6.alloc (.cells #[.int .i64 n0, .int .i64 n1, .int .i64 n2, .int .i64 n3, .int .i64 n4] 23)) v6.heap.size #[.int .i64 n0, .int .i64 n1, .int .i64 n2, .int .i64 n3, .int .i64 n4] 23) := Cl.new v6 #[.int .i64 n0, .int .i64 n1, .int .i64 n2, .int .i64 n3, .int .i64 n4] 23
  have B12 : Hid (Below w.heap.size w (v6.alloc (.cells #[.int .i64 n0, .int .i64 n1, .int .i64 n2, .int .i64 n3, .int .i64 n4] 23))) := B8.out.alloc B8.out.size _
  have L14 : Hid (w.heap.size ≤ v6.heap.size) := B8.out.size
  have N15 : Hid (Cl (v6.alloc (.cells #[.int .i64 n0, .int .i64 n1, .int .i64 n2, .int .i64 n3, .int .i64 n4] 23)) w.heap.size #[.int .i64 0, .int .i64 0, .int .i64 0, .int .i64 0, .int .i64 0] 23) := Cl.alloc N9.out _
  clear N9 B8
  generalize v6.alloc (.cells #[.int .i64 n0, .int .i64 n1, .int .i64 n2, .int .i64 n3, .int .i64 n4] 23) = v10 at *
  generalize v6.heap.size = q11 at *
  refine Calls.mono (C2.out _) ?_
  rintro e v16 ⟨rfl, b17⟩
  have N19 : Hid (Cl v16 w.heap.size #[.int .i64 0, .int .i64 0, .int .i64 0, .int .i64 0, .int .i64 0] 23) := Cl.on N15.out b17
  have N20 : Hid (Cl v16 q11 #[.int .i64 n0, .int .i64 n1, .int .i64 n2, .int .i64 n3, .int .i64 n4] 23) := Cl.on N13.out b17
  have B18 : Hid (Below w.heap.size w v16) := B12.out.trans (b17.mono B12.out.size)
  clear b17 N15 N13 B12
  go_upto_region 3 with fail
  have N24 : Hid (Cl (v16.alloc (.cells #[.int .i64 m0, .int .i64 m1, .int .i64 m2, .int .i64 m3, .int .i64 m4] 23)) v16.heap.size #[.int .i64 m0, .int .i64 m1, .int .i64 m2, .int .i64 m3, .int .i64 m4] 23) := Cl.new v16 #[.int .i64 m0, .int .i64 m1, .int .i64 m2, .int .i64 m3, .int .i64 m4] 23
  have B23 : Hid (Below w.heap.size w (v16.alloc (.cells #[.int .i64 m0, .int .i64 m1, .int .i64 m2, .int .i64 m3, .int .i64 m4] 23))) := B18.out.alloc B18.out.size _
  have L25 : Hid (w.heap.size ≤ v16.heap.size) := B18.out.size
  have N26 : Hid (Cl (v16.alloc (.cells #[.int .i64 m0, .int .i64 m1, .int .i64 m2, .int .i64 m3, .int .i64 m4] 23)) w.heap.size #[.int .i64 0, .int .i64 0, .int .i64 0, .int .i64 0, .int .i64 0] 23) := Cl.alloc N19.out _
  have N27 : Hid (Cl (v16.alloc (.cells #[.int .i64 m0, .int .i64 m1, .int .i64 m2, .int .i64 m3, .int .i64 m4] 23)) q11 #[.int .i64 n0, .int .i64 n1, .int .i64 n2, .int .i64 n3, .int .i64 n4] 23) := Cl.alloc N20.out _
  clear N19 N20 B18
  generalize v16.alloc (.cells #[.int .i64 m0, .int .i64 m1, .int .i64 m2, .int .i64 m3, .int .i64 m4] 23) = v21 at *
  generalize v16.heap.size = q22 at *
  obtain ⟨c28_0, c28_1, c28_2, c28_3, c28_4⟩ := N27.out.five
  obtain ⟨c29_0, c29_1, c29_2, c29_3, c29_4⟩ := N24.out.five
  obtain ⟨c30_0, c30_1, c30_2, c30_3, c30_4⟩ := N26.out.five
  have g31_0 := N26.out.frozen 0
  have g31_1 := N26.out.frozen 1
  have g31_2 := N26.out.frozen 2
  have g31_3 := N26.out.frozen 3
  have g31_4 := N26.out.frozen 4
  have N34 : Hid (Cl (((((v21.setCell ⟨w.heap.size, 0, none⟩ (.int .i64 n0)).setCell ⟨w.heap.size, 1, none⟩ (.int .i64 n1)).setCell ⟨w.heap.size, 2, none⟩ (.int .i64 n2)).setCell ⟨w.heap.size, 3, none⟩ (.int .i64 n3)).setCell ⟨w.heap.size, 4, none⟩ (.int .i64 n4)) w.heap.size #[.int .i64 n0, .int .i64 n1, .int .i64 n2, .int .i64 n3, .int .i64 n4] 23) := Cl.set5 N26.out _ _ _ _ _
  have B33 : Hid (Below w.heap.size w (((((v21.setCell ⟨w.heap.size, 0, none⟩ (.int .i64 n0)).setCell ⟨w.heap.size, 1, none⟩ (.int .i64 n1)).setCell ⟨w.heap.size, 2, none⟩ (.int .i64 n2)).setCell ⟨w.heap.size, 3, none⟩ (.int .i64 n3)).setCell ⟨w.heap.size, 4, none⟩ (.int .i64 n4))) := B23.out.trans ((only_set5 v21 w.heap.size _ _ _ _ _).below L5.out)
  go_wp2
  (try simp only [Exit.inBlock, Exit.then])
  generalize ((((v21.setCell ⟨w.heap.size, 0, none⟩ (.int .i64 n0)).setCell ⟨w.heap.size, 1, none⟩ (.int .i64 n1)).setCell ⟨w.heap.size, 2, none⟩ (.int .i64 n2)).setCell ⟨w.heap.size, 3, none⟩ (.int .i64 n3)).setCell ⟨w.heap.size, 4, none⟩ (.int .i64 n4) = v32 at *
  clear c30_0 c30_1 c30_2 c30_3 c30_4 g31_0 g31_1 g31_2 g31_3 g31_4
  obtain ⟨c35_0, c35_1, c35_2, c35_3, c35_4⟩ := N34.out.five
  refine bodyPost_ret (v := .tuple #[.agg #[.int .i64 n0, .int .i64 n1, .int .i64 n2, .int .i64 n3, .int .i64 n4], .int .i64 0]) ?_ rfl ⟨rfl, B33.out⟩
  · rw [results_cell_tmp rfl]
    go_simp

set_option maxRecDepth 100000 in
set_option maxHeartbeats 1000000 in
theorem rpick_left {a b : ByteArray} {x y : Rt} {p q : Bool} (w : World) (K1 : ∀ u, Calls Tryd.prog 13 #[.string a] u fun e w' => e = .returned (.tuple #[rtV x, .bool p]) ∧ Below u.heap.size u w') (K2 : ∀ u, Calls Tryd.prog 13 #[.string b] u fun e w' => e = .returned (.tuple #[rtV y, .bool q]) ∧ Below u.heap.size u w') (hp : p = true) (hq : q = true) (h : y.ep ≤ x.ep) : Calls Tryd.prog 15 #[.string a, .string b] w fun e w' => e = .returned (.tuple #[rtV x, .int .i64 0]) ∧ Below w.heap.size w w' := by
  have C1 : Hid _ := K1
  have C2 : Hid _ := K2
  subst hp hq
  clear K1 K2
  obtain ⟨n0, n1, n2, n3, n4⟩ := x
  obtain ⟨m0, m1, m2, m3, m4⟩ := y
  unfold rtV at *
  (try unfold rt0 at *)
  dsimp only at *
  go_enter Tryd.func15, Tryd.ntmps15
  go_wp2_with fail
  have N4 : Hid (Cl (w.alloc (.cells #[.int .i64 0, .int .i64 0, .int .i64 0, .int .i64 0, .int .i64 0] 23)) w.heap.size #[.int .i64 0, .int .i64 0, .int .i64 0, .int .i64 0, .int .i64 0] 23) := Cl.new w #[.int .i64 0, .int .i64 0, .int .i64 0, .int .i64 0, .int .i64 0] 23
  have B3 : Hid (Below w.heap.size w (w.alloc (.cells #[.int .i64 0, .int .i64 0, .int .i64 0, .int .i64 0, .int .i64 0] 23))) := (Below.refl _ _).alloc (Nat.le_refl _) _
  have L5 : Hid (w.heap.size ≤ w.heap.size) := Nat.le_refl _
  generalize w.alloc (.cells #[.int .i64 0, .int .i64 0, .int .i64 0, .int .i64 0, .int .i64 0] 23) = v1 at *
  refine Calls.mono (C1.out _) ?_
  rintro e v6 ⟨rfl, b7⟩
  have N9 : Hid (Cl v6 w.heap.size #[.int .i64 0, .int .i64 0, .int .i64 0, .int .i64 0, .int .i64 0] 23) := Cl.on N4.out b7
  have B8 : Hid (Below w.heap.size w v6) := B3.out.trans (b7.mono B3.out.size)
  clear b7 N4 B3
  go_wp2_with fail
  have N13 : Hid (Cl (v6.alloc (.cells #[.int .i64 n0, .int .i64 n1, .int .i64 n2, .int .i64 n3, .int .i64 n4] 23)) v6.heap.size #[.int .i64 n0, .int .i64 n1, .int .i64 n2, .int .i64 n3, .int .i64 n4] 23) := Cl.new v6 #[.int .i64 n0, .int .i64 n1, .int .i64 n2, .int .i64 n3, .int .i64 n4] 23
  have B12 : Hid (Below w.heap.size w (v6.alloc (.cells #[.int .i64 n0, .int .i64 n1, .int .i64 n2, .int .i64 n3, .int .i64 n4] 23))) := B8.out.alloc B8.out.size _
  have L14 : Hid (w.heap.size ≤ v6.heap.size) := B8.out.size
  have N15 : Hid (Cl (v6.alloc (.cells #[.int .i64 n0, .int .i64 n1, .int .i64 n2, .int .i64 n3, .int .i64 n4] 23)) w.heap.size #[.int .i64 0, .int .i64 0, .int .i64 0, .int .i64 0, .int .i64 0] 23) := Cl.alloc N9.out _
  clear N9 B8
  generalize v6.alloc (.cells #[.int .i64 n0, .int .i64 n1, .int .i64 n2, .int .i64 n3, .int .i64 n4] 23) = v10 at *
  generalize v6.heap.size = q11 at *
  refine Calls.mono (C2.out _) ?_
  rintro e v16 ⟨rfl, b17⟩
  have N19 : Hid (Cl v16 w.heap.size #[.int .i64 0, .int .i64 0, .int .i64 0, .int .i64 0, .int .i64 0] 23) := Cl.on N15.out b17
  have N20 : Hid (Cl v16 q11 #[.int .i64 n0, .int .i64 n1, .int .i64 n2, .int .i64 n3, .int .i64 n4] 23) := Cl.on N13.out b17
  have B18 : Hid (Below w.heap.size w v16) := B12.out.trans (b17.mono B12.out.size)
  clear b17 N15 N13 B12
  go_upto_region 3 with fail
  have N24 : Hid (Cl (v16.alloc (.cells #[.int .i64 m0, .int .i64 m1, .int .i64 m2, .int .i64 m3, .int .i64 m4] 23)) v16.heap.size #[.int .i64 m0, .int .i64 m1, .int .i64 m2, .int .i64 m3, .int .i64 m4] 23) := Cl.new v16 #[.int .i64 m0, .int .i64 m1, .int .i64 m2, .int .i64 m3, .int .i64 m4] 23
  have B23 : Hid (Below w.heap.size w (v16.alloc (.cells #[.int .i64 m0, .int .i64 m1, .int .i64 m2, .int .i64 m3, .int .i64 m4] 23))) := B18.out.alloc B18.out.size _
  have L25 : Hid (w.heap.size ≤ v16.heap.size) := B18.out.size
  have N26 : Hid (Cl (v16.alloc (.cells #[.int .i64 m0, .int .i64 m1, .int .i64 m2, .int .i64 m3, .int .i64 m4] 23)) w.heap.size #[.int .i64 0, .int .i64 0, .int .i64 0, .int .i64 0, .int .i64 0] 23) := Cl.alloc N19.out _
  have N27 : Hid (Cl (v16.alloc (.cells #[.int .i64 m0, .int .i64 m1, .int .i64 m2, .int .i64 m3, .int .i64 m4] 23)) q11 #[.int .i64 n0, .int .i64 n1, .int .i64 n2, .int .i64 n3, .int .i64 n4] 23) := Cl.alloc N20.out _
  clear N19 N20 B18
  generalize v16.alloc (.cells #[.int .i64 m0, .int .i64 m1, .int .i64 m2, .int .i64 m3, .int .i64 m4] 23) = v21 at *
  generalize v16.heap.size = q22 at *
  obtain ⟨c28_0, c28_1, c28_2, c28_3, c28_4⟩ := N27.out.five
  obtain ⟨c29_0, c29_1, c29_2, c29_3, c29_4⟩ := N24.out.five
  obtain ⟨c30_0, c30_1, c30_2, c30_3, c30_4⟩ := N26.out.five
  have g31_0 := N26.out.frozen 0
  have g31_1 := N26.out.frozen 1
  have g31_2 := N26.out.frozen 2
  have g31_3 := N26.out.frozen 3
  have g31_4 := N26.out.frozen 4
  have N34 : Hid (Cl (((((v21.setCell ⟨w.heap.size, 0, none⟩ (.int .i64 n0)).setCell ⟨w.heap.size, 1, none⟩ (.int .i64 n1)).setCell ⟨w.heap.size, 2, none⟩ (.int .i64 n2)).setCell ⟨w.heap.size, 3, none⟩ (.int .i64 n3)).setCell ⟨w.heap.size, 4, none⟩ (.int .i64 n4)) w.heap.size #[.int .i64 n0, .int .i64 n1, .int .i64 n2, .int .i64 n3, .int .i64 n4] 23) := Cl.set5 N26.out _ _ _ _ _
  have B33 : Hid (Below w.heap.size w (((((v21.setCell ⟨w.heap.size, 0, none⟩ (.int .i64 n0)).setCell ⟨w.heap.size, 1, none⟩ (.int .i64 n1)).setCell ⟨w.heap.size, 2, none⟩ (.int .i64 n2)).setCell ⟨w.heap.size, 3, none⟩ (.int .i64 n3)).setCell ⟨w.heap.size, 4, none⟩ (.int .i64 n4))) := B23.out.trans ((only_set5 v21 w.heap.size _ _ _ _ _).below L5.out)
  go_wp2
  (try simp only [Exit.inBlock, Exit.then])
  generalize ((((v21.setCell ⟨w.heap.size, 0, none⟩ (.int .i64 n0)).setCell ⟨w.heap.size, 1, none⟩ (.int .i64 n1)).setCell ⟨w.heap.size, 2, none⟩ (.int .i64 n2)).setCell ⟨w.heap.size, 3, none⟩ (.int .i64 n3)).setCell ⟨w.heap.size, 4, none⟩ (.int .i64 n4) = v32 at *
  clear c30_0 c30_1 c30_2 c30_3 c30_4 g31_0 g31_1 g31_2 g31_3 g31_4
  obtain ⟨c35_0, c35_1, c35_2, c35_3, c35_4⟩ := N34.out.five
  refine bodyPost_ret (v := .tuple #[.agg #[.int .i64 n0, .int .i64 n1, .int .i64 n2, .int .i64 n3, .int .i64 n4], .int .i64 0]) ?_ rfl ⟨rfl, B33.out⟩
  · rw [results_cell_tmp rfl]
    go_simp

set_option maxRecDepth 100000 in
set_option maxHeartbeats 1000000 in
theorem rpick_right {a b : ByteArray} {x y : Rt} {p q : Bool} (w : World) (K1 : ∀ u, Calls Tryd.prog 13 #[.string a] u fun e w' => e = .returned (.tuple #[rtV x, .bool p]) ∧ Below u.heap.size u w') (K2 : ∀ u, Calls Tryd.prog 13 #[.string b] u fun e w' => e = .returned (.tuple #[rtV y, .bool q]) ∧ Below u.heap.size u w') (hp : p = true) (hq : q = true) (h : ¬ y.ep ≤ x.ep) : Calls Tryd.prog 15 #[.string a, .string b] w fun e w' => e = .returned (.tuple #[rtV y, .int .i64 0]) ∧ Below w.heap.size w w' := by
  have C1 : Hid _ := K1
  have C2 : Hid _ := K2
  subst hp hq
  clear K1 K2
  obtain ⟨n0, n1, n2, n3, n4⟩ := x
  obtain ⟨m0, m1, m2, m3, m4⟩ := y
  unfold rtV at *
  (try unfold rt0 at *)
  dsimp only at *
  go_enter Tryd.func15, Tryd.ntmps15
  go_wp2_with fail
  have N4 : Hid (Cl (w.alloc (.cells #[.int .i64 0, .int .i64 0, .int .i64 0, .int .i64 0, .int .i64 0] 23)) w.heap.size #[.int .i64 0, .int .i64 0, .int .i64 0, .int .i64 0, .int .i64 0] 23) := Cl.new w #[.int .i64 0, .int .i64 0, .int .i64 0, .int .i64 0, .int .i64 0] 23
  have B3 : Hid (Below w.heap.size w (w.alloc (.cells #[.int .i64 0, .int .i64 0, .int .i64 0, .int .i64 0, .int .i64 0] 23))) := (Below.refl _ _).alloc (Nat.le_refl _) _
  have L5 : Hid (w.heap.size ≤ w.heap.size) := Nat.le_refl _
  generalize w.alloc (.cells #[.int .i64 0, .int .i64 0, .int .i64 0, .int .i64 0, .int .i64 0] 23) = v1 at *
  refine Calls.mono (C1.out _) ?_
  rintro e v6 ⟨rfl, b7⟩
  have N9 : Hid (Cl v6 w.heap.size #[.int .i64 0, .int .i64 0, .int .i64 0, .int .i64 0, .int .i64 0] 23) := Cl.on N4.out b7
  have B8 : Hid (Below w.heap.size w v6) := B3.out.trans (b7.mono B3.out.size)
  clear b7 N4 B3
  go_wp2_with fail
  have N13 : Hid (Cl (v6.alloc (.cells #[.int .i64 n0, .int .i64 n1, .int .i64 n2, .int .i64 n3, .int .i64 n4] 23)) v6.heap.size #[.int .i64 n0, .int .i64 n1, .int .i64 n2, .int .i64 n3, .int .i64 n4] 23) := Cl.new v6 #[.int .i64 n0, .int .i64 n1, .int .i64 n2, .int .i64 n3, .int .i64 n4] 23
  have B12 : Hid (Below w.heap.size w (v6.alloc (.cells #[.int .i64 n0, .int .i64 n1, .int .i64 n2, .int .i64 n3, .int .i64 n4] 23))) := B8.out.alloc B8.out.size _
  have L14 : Hid (w.heap.size ≤ v6.heap.size) := B8.out.size
  have N15 : Hid (Cl (v6.alloc (.cells #[.int .i64 n0, .int .i64 n1, .int .i64 n2, .int .i64 n3, .int .i64 n4] 23)) w.heap.size #[.int .i64 0, .int .i64 0, .int .i64 0, .int .i64 0, .int .i64 0] 23) := Cl.alloc N9.out _
  clear N9 B8
  generalize v6.alloc (.cells #[.int .i64 n0, .int .i64 n1, .int .i64 n2, .int .i64 n3, .int .i64 n4] 23) = v10 at *
  generalize v6.heap.size = q11 at *
  refine Calls.mono (C2.out _) ?_
  rintro e v16 ⟨rfl, b17⟩
  have N19 : Hid (Cl v16 w.heap.size #[.int .i64 0, .int .i64 0, .int .i64 0, .int .i64 0, .int .i64 0] 23) := Cl.on N15.out b17
  have N20 : Hid (Cl v16 q11 #[.int .i64 n0, .int .i64 n1, .int .i64 n2, .int .i64 n3, .int .i64 n4] 23) := Cl.on N13.out b17
  have B18 : Hid (Below w.heap.size w v16) := B12.out.trans (b17.mono B12.out.size)
  clear b17 N15 N13 B12
  go_upto_region 3 with fail
  have N24 : Hid (Cl (v16.alloc (.cells #[.int .i64 m0, .int .i64 m1, .int .i64 m2, .int .i64 m3, .int .i64 m4] 23)) v16.heap.size #[.int .i64 m0, .int .i64 m1, .int .i64 m2, .int .i64 m3, .int .i64 m4] 23) := Cl.new v16 #[.int .i64 m0, .int .i64 m1, .int .i64 m2, .int .i64 m3, .int .i64 m4] 23
  have B23 : Hid (Below w.heap.size w (v16.alloc (.cells #[.int .i64 m0, .int .i64 m1, .int .i64 m2, .int .i64 m3, .int .i64 m4] 23))) := B18.out.alloc B18.out.size _
  have L25 : Hid (w.heap.size ≤ v16.heap.size) := B18.out.size
  have N26 : Hid (Cl (v16.alloc (.cells #[.int .i64 m0, .int .i64 m1, .int .i64 m2, .int .i64 m3, .int .i64 m4] 23)) w.heap.size #[.int .i64 0, .int .i64 0, .int .i64 0, .int .i64 0, .int .i64 0] 23) := Cl.alloc N19.out _
  have N27 : Hid (Cl (v16.alloc (.cells #[.int .i64 m0, .int .i64 m1, .int .i64 m2, .int .i64 m3, .int .i64 m4] 23)) q11 #[.int .i64 n0, .int .i64 n1, .int .i64 n2, .int .i64 n3, .int .i64 n4] 23) := Cl.alloc N20.out _
  clear N19 N20 B18
  generalize v16.alloc (.cells #[.int .i64 m0, .int .i64 m1, .int .i64 m2, .int .i64 m3, .int .i64 m4] 23) = v21 at *
  generalize v16.heap.size = q22 at *
  obtain ⟨c28_0, c28_1, c28_2, c28_3, c28_4⟩ := N27.out.five
  obtain ⟨c29_0, c29_1, c29_2, c29_3, c29_4⟩ := N24.out.five
  obtain ⟨c30_0, c30_1, c30_2, c30_3, c30_4⟩ := N26.out.five
  have g31_0 := N26.out.frozen 0
  have g31_1 := N26.out.frozen 1
  have g31_2 := N26.out.frozen 2
  have g31_3 := N26.out.frozen 3
  have g31_4 := N26.out.frozen 4
  have N34 : Hid (Cl (((((v21.setCell ⟨w.heap.size, 0, none⟩ (.int .i64 m0)).setCell ⟨w.heap.size, 1, none⟩ (.int .i64 m1)).setCell ⟨w.heap.size, 2, none⟩ (.int .i64 m2)).setCell ⟨w.heap.size, 3, none⟩ (.int .i64 m3)).setCell ⟨w.heap.size, 4, none⟩ (.int .i64 m4)) w.heap.size #[.int .i64 m0, .int .i64 m1, .int .i64 m2, .int .i64 m3, .int .i64 m4] 23) := Cl.set5 N26.out _ _ _ _ _
  have B33 : Hid (Below w.heap.size w (((((v21.setCell ⟨w.heap.size, 0, none⟩ (.int .i64 m0)).setCell ⟨w.heap.size, 1, none⟩ (.int .i64 m1)).setCell ⟨w.heap.size, 2, none⟩ (.int .i64 m2)).setCell ⟨w.heap.size, 3, none⟩ (.int .i64 m3)).setCell ⟨w.heap.size, 4, none⟩ (.int .i64 m4))) := B23.out.trans ((only_set5 v21 w.heap.size _ _ _ _ _).below L5.out)
  go_wp2
  (try simp only [Exit.inBlock, Exit.then])
  generalize ((((v21.setCell ⟨w.heap.size, 0, none⟩ (.int .i64 m0)).setCell ⟨w.heap.size, 1, none⟩ (.int .i64 m1)).setCell ⟨w.heap.size, 2, none⟩ (.int .i64 m2)).setCell ⟨w.heap.size, 3, none⟩ (.int .i64 m3)).setCell ⟨w.heap.size, 4, none⟩ (.int .i64 m4) = v32 at *
  clear c30_0 c30_1 c30_2 c30_3 c30_4 g31_0 g31_1 g31_2 g31_3 g31_4
  obtain ⟨c35_0, c35_1, c35_2, c35_3, c35_4⟩ := N34.out.five
  refine bodyPost_ret (v := .tuple #[.agg #[.int .i64 m0, .int .i64 m1, .int .i64 m2, .int .i64 m3, .int .i64 m4], .int .i64 0]) ?_ rfl ⟨rfl, B33.out⟩
  · rw [results_cell_tmp rfl]
    go_simp

theorem rpick_any (a b : ByteArray) (ha : a.size ≤ maxLen) (hb : b.size ≤ maxLen) (w : World) : Calls Tryd.prog 15 #[.string a, .string b] w fun e w' => e = .returned (.tuple #[rtV (pkR a.data.toList b.data.toList), .int .i64 (pkE a.data.toList b.data.toList)]) ∧ Below w.heap.size w w' := by
  have K1 := fun u => rdec_any a ha u
  have K2 := fun u => rdec_any b hb u
  cases hp : decB a.data.toList with
  | false =>
    rw [hp] at K1
    cases hq : decB b.data.toList with
    | false =>
      rw [hq] at K2
      rw [pkR_none hp hq, pkE_none hp hq]
      exact rpick_none w K1 K2 rfl rfl
    | true =>
      rw [hq] at K2
      rw [pkR_second hp hq, pkE_right hq]
      exact rpick_second w K1 K2 rfl rfl
  | true =>
    rw [hp] at K1
    rw [pkE_left hp]
    cases hq : decB b.data.toList with
    | false =>
      rw [hq] at K2
      rw [pkR_first hp hq]
      exact rpick_first w K1 K2 rfl rfl
    | true =>
      rw [hq] at K2
      by_cases h : (decR a.data.toList).ep < (decR b.data.toList).ep
      · rw [pkR_right h]
        exact rpick_right w K1 K2 rfl rfl (by omega)
      · rw [pkR_left h]
        exact rpick_left w K1 K2 rfl rfl (by omega)

end Go.Proofs.YtalljfckjkbieaaDoor

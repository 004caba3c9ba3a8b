/-
  The walk of the law RootNone: without sectors, or with nothing stored, there is no root; nothing panics.
-/
import Derived.Test.YtalljfckjkbieaaDoorRsStore
import Derived.Test.YtalljfckjkbieaaDoorRsRef
namespace Go.Proofs.YtalljfckjkbieaaDoor
open Go.RowKit
set_option linter.unusedVariables false

theorem zero_dec : decB zeroS.data.toList = false := by
  unfold decB
  rw [show (rdR zeroS.data.toList).ok = false by decide +kernel]
  rfl
theorem slot_range {d : Dk} (hd : d.down = false) {i : Int} (hi : slotB i = true) (hh : d.has i = false) : d.slot i = ((ByteArray.empty, 40), d) := by
  unfold Dk.slot
  rw [if_pos hi]
  unfold Dk.get
  rw [hd, hh]
  rfl
theorem load_short {d : Dk} (hd : d.down = false) (hs : d.sure.length < 2) : d.load.1 = (rt0, 40) := by
  have n40 : ¬ ((40 : Int) = 0) := by decide
  by_cases h0 : d.sure.length = 0
  · have hh : d.has 0 = false := by unfold Dk.has; rw [decide_eq_false_iff_not]; omega
    unfold Dk.load
    rw [slot_range hd (by decide) hh, if_neg n40]
  · have hh : d.has 0 = true := by unfold Dk.has; rw [decide_eq_true_iff]; omega
    have g0 : (d.slot 0).1.2 = 0 ∧ (d.slot 0).2.down = false ∧ (d.slot 0).2.sure = d.sure := by
      unfold Dk.slot
      rw [if_pos (by decide)]
      unfold Dk.get
      rw [hd, hh]
      exact ⟨rfl, rfl, rfl⟩
    have h1 : (d.slot 0).2.has 1 = false := by unfold Dk.has; rw [decide_eq_false_iff_not, g0.2.2]; omega
    unfold Dk.load
    rw [if_pos g0.1, slot_range g0.2.1 (by decide) h1, if_neg n40]
/-- What a disk that is up loads. -/
theorem Up.load {n : Nat} {d : Dk} (h : Up n d) (hn : 2 ≤ n) : d.load.1 = (pkR (d.now 0).data.toList (d.now 1).data.toList, pkE (d.now 0).data.toList (d.now 1).data.toList) ∧ Up n d.load.2 ∧ (∀ i, d.load.2.now i = d.now i) ∧ d.load.2.pend = d.pend ∧ d.load.2.sure = d.sure := by
  obtain ⟨a1, a2, a3, a4, a5⟩ := h.slot 0 (by omega) (by omega)
  obtain ⟨b1, b2, b3, b4, b5⟩ := a2.slot 1 (by omega) (by omega)
  have c1 : (d.slot 0).1 = (d.now 0, 0) := a1
  have c2 : ((d.slot 0).2.slot 1).1 = (d.now 1, 0) := by rw [← a3 1]; exact b1
  unfold Dk.load
  rw [c1, if_pos rfl, c2, if_pos rfl]
  exact ⟨rfl, b2, fun i => (b3 i).trans (a3 i), b4.trans a4, b5.trans a5⟩
theorem load_zero {n : Nat} {d : Dk} (h : Up n d) (hn : 2 ≤ n) (h0 : d.now 0 = zeroS) (h1 : d.now 1 = zeroS) : d.load.1 = (rt0, 70) := by
  rw [(h.load hn).1, h0, h1, pkR_none zero_dec zero_dec, pkE_none zero_dec zero_dec]

set_option maxRecDepth 100000 in
set_option maxHeartbeats 2000000 in
theorem none_yf (n : Int) (r : Rt) (k : Nat) (w : World) (T : Tab w) (hk : min (max n 0) 4 = (k : Int)) (hr : r.ok = true) (h2 : k < 2) : Calls Tryd.prog 7 #[.int .i64 n, rtV r] w fun e w' => e = .returned (.bool true) ∧ Below w.heap.size w w' := by
  have CW : Hid (∀ u, Tab u → Calls Tryd.prog 9 #[] u fun e w' => e = .returned (.bool true) ∧ Below u.heap.size u w') := works_any
  have TS : Hid (Tabs w.heap.size w) := tabs_of T
  have hk4 : k ≤ 4 := by omega
  have EL : (Dk.new (k : Int)).load.1 = (rt0, 40) := by
    exact load_short rfl (by show (List.replicate _ _).length < 2; rw [List.length_replicate]; omega)
  have KN : Hid (∀ u L, Sep w.heap.size w u L → Calls Tryd.prog 16 #[.int .i64 k] u fun e w' => ∃ b, e = .returned (ptr b) ∧ Sep w.heap.size w w' (Disk b (Dk.new k) :: L)) := fun u L hu => new_s (k : Int) hu
  have KF : Hid (∀ u b L, Sep w.heap.size w u (Disk b (Dk.new k) :: L) → Calls Tryd.prog 17 #[ptr b] u fun e w' => ∃ f, e = .returned (ptr f) ∧ Sep w.heap.size w w' (File f b (Dk.new k) :: L)) := fun u b L hu => new_f hu
  have KL : Hid (∀ u f b L, Sep w.heap.size w u (File f b (Dk.new k) :: L) → Calls Tryd.prog 19 #[ptr f] u fun e w' => e = .returned (.tuple #[rtV rt0, .int .i64 40]) ∧ Sep w.heap.size w w' (File f b (Dk.new k).load.2 :: L)) := fun u f b L hu => by
    have := load_f TS.out hu
    rw [EL] at this
    exact this
  have KM : Hid (∀ u L, Sep w.heap.size w u L → Calls Tryd.prog 19 #[.pointer none] u fun e w' => e = .returned (.tuple #[rtV rt0, .int .i64 40]) ∧ Sep w.heap.size w w' L) := fun u L hu => load_nil (f := 0) (b := 0) (d := Dk.new 0) TS.out hu
  have KS : Hid (∀ u L, Sep w.heap.size w u L → Calls Tryd.prog 18 #[.pointer none, rtV r] u fun e w' => e = .returned (.int .i64 40) ∧ Sep w.heap.size w w' L) := fun u L hu => store_nil (f := 0) (b := 0) (d := Dk.new 0) TS.out hu r hr
  generalize Dk.new (k : Int) = d at *
  generalize d.load.2 = d2 at *
  have h2' : (k : Int) < 2 := by omega
  clear T EL hr h2
  obtain ⟨n0, n1, n2, n3, n4⟩ := r
  unfold rtV at *
  unfold rt0 at *
  dsimp only at *
  have S0 : Hid (Sep w.heap.size w (w.alloc (.cells #[.int .i64 n0, .int .i64 n1, .int .i64 n2, .int .i64 n3, .int .i64 n4] 23)) [Blk w.heap.size (.cells #[.int .i64 n0, .int .i64 n1, .int .i64 n2, .int .i64 n3, .int .i64 n4] 23)]) := (Sep.nil (Nat.le_refl _) (Below.refl _ _)).addBlk _
  go_enter Tryd.func7, Tryd.ntmps7
  go_wp2_with fail
  generalize w.alloc (.cells #[.int .i64 n0, .int .i64 n1, .int .i64 n2, .int .i64 n3, .int .i64 n4] 23) = v0 at *
  skip
  refine Calls.mono (CW.out _ (TS.out _ S0.out.bel)) ?_
  rintro e v1 ⟨rfl, b1⟩
  have S1 : Hid (Sep w.heap.size w v1 [Blk w.heap.size (.cells #[.int .i64 n0, .int .i64 n1, .int .i64 n2, .int .i64 n3, .int .i64 n4] 23)]) := S0.out.below b1
  clear b1 S0 CW
  go_wp2_with fail
  refine Calls.mono (KN.out _ _ S1.out) ?_
  rintro e v2 ⟨b, rfl, s2⟩
  have S2 : Hid (Sep w.heap.size w v2 [Disk b d, Blk w.heap.size (.cells #[.int .i64 n0, .int .i64 n1, .int .i64 n2, .int .i64 n3, .int .i64 n4] 23)]) := s2
  clear s2 S1 KN
  go_wp2_with fail
  refine Calls.mono (KF.out _ _ _ S2.out) ?_
  rintro e v3 ⟨f, rfl, s3⟩
  have S3 : Hid (Sep w.heap.size w v3 [File f b d, Blk w.heap.size (.cells #[.int .i64 n0, .int .i64 n1, .int .i64 n2, .int .i64 n3, .int .i64 n4] 23)]) := s3
  clear s3 S2 KF
  go_wp2_with fail
  refine Calls.mono (KL.out _ _ _ _ S3.out) ?_
  rintro e v4 ⟨rfl, s4⟩
  have S4 : Hid (Sep w.heap.size w (v4.alloc (.cells #[.int .i64 0, .int .i64 0, .int .i64 0, .int .i64 0, .int .i64 0] 23)) [File f b d2, Blk w.heap.size (.cells #[.int .i64 n0, .int .i64 n1, .int .i64 n2, .int .i64 n3, .int .i64 n4] 23)]) := s4.alloc _
  clear s4 S3 KL
  go_wp2_with fail
  generalize v4.alloc (.cells #[.int .i64 0, .int .i64 0, .int .i64 0, .int .i64 0, .int .i64 0] 23) = v5 at *
  refine Calls.mono (KM.out _ _ S4.out) ?_
  rintro e v6 ⟨rfl, s6⟩
  have S6 : Hid (Sep w.heap.size w (v6.alloc (.cells #[.int .i64 0, .int .i64 0, .int .i64 0, .int .i64 0, .int .i64 0] 23)) [File f b d2, Blk w.heap.size (.cells #[.int .i64 n0, .int .i64 n1, .int .i64 n2, .int .i64 n3, .int .i64 n4] 23)]) := s6.alloc _
  clear s6 S4 KM
  go_upto_region 8 with fail
  generalize v6.alloc (.cells #[.int .i64 0, .int .i64 0, .int .i64 0, .int .i64 0, .int .i64 0] 23) = v7 at *
  obtain ⟨c0, c1, c2, c3, c4⟩ := S6.out.up1.cl.five
  go_wp2_with fail
  clear c0 c1 c2 c3 c4
  refine Calls.mono (KS.out _ _ S6.out) ?_
  rintro e v8 ⟨rfl, s8⟩
  have B8 : Hid (Below w.heap.size w v8) := s8.bel
  clear s8 S6 KS
  go_wp2
  go_ret
  exact ⟨rfl, B8.out⟩

set_option maxRecDepth 100000 in
set_option maxHeartbeats 2000000 in
theorem none_ym (n : Int) (r : Rt) (k : Nat) (w : World) (T : Tab w) (hk : min (max n 0) 4 = (k : Int)) (hr : r.ok = true) (h2 : ¬ k < 2) : Calls Tryd.prog 7 #[.int .i64 n, rtV r] w fun e w' => e = .returned (.bool true) ∧ Below w.heap.size w w' := by
  have CW : Hid (∀ u, Tab u → Calls Tryd.prog 9 #[] u fun e w' => e = .returned (.bool true) ∧ Below u.heap.size u w') := works_any
  have TS : Hid (Tabs w.heap.size w) := tabs_of T
  have hk4 : k ≤ 4 := by omega
  have EL : (Dk.new (k : Int)).load.1 = (rt0, 70) := by
    exact load_zero (Up.new k (by omega)) (by omega) (new_now (by omega) (by omega)) (new_now (by omega) (by omega))
  have KN : Hid (∀ u L, Sep w.heap.size w u L → Calls Tryd.prog 16 #[.int .i64 k] u fun e w' => ∃ b, e = .returned (ptr b) ∧ Sep w.heap.size w w' (Disk b (Dk.new k) :: L)) := fun u L hu => new_s (k : Int) hu
  have KF : Hid (∀ u b L, Sep w.heap.size w u (Disk b (Dk.new k) :: L) → Calls Tryd.prog 17 #[ptr b] u fun e w' => ∃ f, e = .returned (ptr f) ∧ Sep w.heap.size w w' (File f b (Dk.new k) :: L)) := fun u b L hu => new_f hu
  have KL : Hid (∀ u f b L, Sep w.heap.size w u (File f b (Dk.new k) :: L) → Calls Tryd.prog 19 #[ptr f] u fun e w' => e = .returned (.tuple #[rtV rt0, .int .i64 70]) ∧ Sep w.heap.size w w' (File f b (Dk.new k).load.2 :: L)) := fun u f b L hu => by
    have := load_f TS.out hu
    rw [EL] at this
    exact this
  have KM : Hid (∀ u L, Sep w.heap.size w u L → Calls Tryd.prog 19 #[.pointer none] u fun e w' => e = .returned (.tuple #[rtV rt0, .int .i64 40]) ∧ Sep w.heap.size w w' L) := fun u L hu => load_nil (f := 0) (b := 0) (d := Dk.new 0) TS.out hu
  have KS : Hid (∀ u L, Sep w.heap.size w u L → Calls Tryd.prog 18 #[.pointer none, rtV r] u fun e w' => e = .returned (.int .i64 40) ∧ Sep w.heap.size w w' L) := fun u L hu => store_nil (f := 0) (b := 0) (d := Dk.new 0) TS.out hu r hr
  generalize Dk.new (k : Int) = d at *
  generalize d.load.2 = d2 at *
  have h2' : ¬ (k : Int) < 2 := by omega
  clear T EL hr h2
  obtain ⟨n0, n1, n2, n3, n4⟩ := r
  unfold rtV at *
  unfold rt0 at *
  dsimp only at *
  have S0 : Hid (Sep w.heap.size w (w.alloc (.cells #[.int .i64 n0, .int .i64 n1, .int .i64 n2, .int .i64 n3, .int .i64 n4] 23)) [Blk w.heap.size (.cells #[.int .i64 n0, .int .i64 n1, .int .i64 n2, .int .i64 n3, .int .i64 n4] 23)]) := (Sep.nil (Nat.le_refl _) (Below.refl _ _)).addBlk _
  go_enter Tryd.func7, Tryd.ntmps7
  go_wp2_with fail
  generalize w.alloc (.cells #[.int .i64 n0, .int .i64 n1, .int .i64 n2, .int .i64 n3, .int .i64 n4] 23) = v0 at *
  skip
  refine Calls.mono (CW.out _ (TS.out _ S0.out.bel)) ?_
  rintro e v1 ⟨rfl, b1⟩
  have S1 : Hid (Sep w.heap.size w v1 [Blk w.heap.size (.cells #[.int .i64 n0, .int .i64 n1, .int .i64 n2, .int .i64 n3, .int .i64 n4] 23)]) := S0.out.below b1
  clear b1 S0 CW
  go_wp2_with fail
  refine Calls.mono (KN.out _ _ S1.out) ?_
  rintro e v2 ⟨b, rfl, s2⟩
  have S2 : Hid (Sep w.heap.size w v2 [Disk b d, Blk w.heap.size (.cells #[.int .i64 n0, .int .i64 n1, .int .i64 n2, .int .i64 n3, .int .i64 n4] 23)]) := s2
  clear s2 S1 KN
  go_wp2_with fail
  refine Calls.mono (KF.out _ _ _ S2.out) ?_
  rintro e v3 ⟨f, rfl, s3⟩
  have S3 : Hid (Sep w.heap.size w v3 [File f b d, Blk w.heap.size (.cells #[.int .i64 n0, .int .i64 n1, .int .i64 n2, .int .i64 n3, .int .i64 n4] 23)]) := s3
  clear s3 S2 KF
  go_wp2_with fail
  refine Calls.mono (KL.out _ _ _ _ S3.out) ?_
  rintro e v4 ⟨rfl, s4⟩
  have S4 : Hid (Sep w.heap.size w (v4.alloc (.cells #[.int .i64 0, .int .i64 0, .int .i64 0, .int .i64 0, .int .i64 0] 23)) [File f b d2, Blk w.heap.size (.cells #[.int .i64 n0, .int .i64 n1, .int .i64 n2, .int .i64 n3, .int .i64 n4] 23)]) := s4.alloc _
  clear s4 S3 KL
  go_wp2_with fail
  generalize v4.alloc (.cells #[.int .i64 0, .int .i64 0, .int .i64 0, .int .i64 0, .int .i64 0] 23) = v5 at *
  refine Calls.mono (KM.out _ _ S4.out) ?_
  rintro e v6 ⟨rfl, s6⟩
  have S6 : Hid (Sep w.heap.size w (v6.alloc (.cells #[.int .i64 0, .int .i64 0, .int .i64 0, .int .i64 0, .int .i64 0] 23)) [File f b d2, Blk w.heap.size (.cells #[.int .i64 n0, .int .i64 n1, .int .i64 n2, .int .i64 n3, .int .i64 n4] 23)]) := s6.alloc _
  clear s6 S4 KM
  go_upto_region 8 with fail
  generalize v6.alloc (.cells #[.int .i64 0, .int .i64 0, .int .i64 0, .int .i64 0, .int .i64 0] 23) = v7 at *
  obtain ⟨c0, c1, c2, c3, c4⟩ := S6.out.up1.cl.five
  go_wp2_with fail
  clear c0 c1 c2 c3 c4
  refine Calls.mono (KS.out _ _ S6.out) ?_
  rintro e v8 ⟨rfl, s8⟩
  have B8 : Hid (Below w.heap.size w v8) := s8.bel
  clear s8 S6 KS
  go_wp2
  go_ret
  exact ⟨rfl, B8.out⟩

set_option maxRecDepth 100000 in
set_option maxHeartbeats 2000000 in
theorem none_nf (n : Int) (r : Rt) (k : Nat) (w : World) (T : Tab w) (hk : min (max n 0) 4 = (k : Int)) (hr : r.ok = false) (h2 : k < 2) : Calls Tryd.prog 7 #[.int .i64 n, rtV r] w fun e w' => e = .returned (.bool true) ∧ Below w.heap.size w w' := by
  have CW : Hid (∀ u, Tab u → Calls Tryd.prog 9 #[] u fun e w' => e = .returned (.bool true) ∧ Below u.heap.size u w') := works_any
  have TS : Hid (Tabs w.heap.size w) := tabs_of T
  have hk4 : k ≤ 4 := by omega
  have EL : (Dk.new (k : Int)).load.1 = (rt0, 40) := by
    exact load_short rfl (by show (List.replicate _ _).length < 2; rw [List.length_replicate]; omega)
  have KN : Hid (∀ u L, Sep w.heap.size w u L → Calls Tryd.prog 16 #[.int .i64 k] u fun e w' => ∃ b, e = .returned (ptr b) ∧ Sep w.heap.size w w' (Disk b (Dk.new k) :: L)) := fun u L hu => new_s (k : Int) hu
  have KF : Hid (∀ u b L, Sep w.heap.size w u (Disk b (Dk.new k) :: L) → Calls Tryd.prog 17 #[ptr b] u fun e w' => ∃ f, e = .returned (ptr f) ∧ Sep w.heap.size w w' (File f b (Dk.new k) :: L)) := fun u b L hu => new_f hu
  have KL : Hid (∀ u f b L, Sep w.heap.size w u (File f b (Dk.new k) :: L) → Calls Tryd.prog 19 #[ptr f] u fun e w' => e = .returned (.tuple #[rtV rt0, .int .i64 40]) ∧ Sep w.heap.size w w' (File f b (Dk.new k).load.2 :: L)) := fun u f b L hu => by
    have := load_f TS.out hu
    rw [EL] at this
    exact this
  have KM : Hid (∀ u L, Sep w.heap.size w u L → Calls Tryd.prog 19 #[.pointer none] u fun e w' => e = .returned (.tuple #[rtV rt0, .int .i64 40]) ∧ Sep w.heap.size w w' L) := fun u L hu => load_nil (f := 0) (b := 0) (d := Dk.new 0) TS.out hu
  have KS : Hid (∀ u L, Sep w.heap.size w u L → Calls Tryd.prog 18 #[.pointer none, rtV r] u fun e w' => e = .returned (.int .i64 1) ∧ Sep w.heap.size w w' L) := fun u L hu => store_nilarg (f := 0) (b := 0) (d := Dk.new 0) TS.out hu r hr
  generalize Dk.new (k : Int) = d at *
  generalize d.load.2 = d2 at *
  have h2' : (k : Int) < 2 := by omega
  clear T EL hr h2
  obtain ⟨n0, n1, n2, n3, n4⟩ := r
  unfold rtV at *
  unfold rt0 at *
  dsimp only at *
  have S0 : Hid (Sep w.heap.size w (w.alloc (.cells #[.int .i64 n0, .int .i64 n1, .int .i64 n2, .int .i64 n3, .int .i64 n4] 23)) [Blk w.heap.size (.cells #[.int .i64 n0, .int .i64 n1, .int .i64 n2, .int .i64 n3, .int .i64 n4] 23)]) := (Sep.nil (Nat.le_refl _) (Below.refl _ _)).addBlk _
  go_enter Tryd.func7, Tryd.ntmps7
  go_wp2_with fail
  generalize w.alloc (.cells #[.int .i64 n0, .int .i64 n1, .int .i64 n2, .int .i64 n3, .int .i64 n4] 23) = v0 at *
  skip
  refine Calls.mono (CW.out _ (TS.out _ S0.out.bel)) ?_
  rintro e v1 ⟨rfl, b1⟩
  have S1 : Hid (Sep w.heap.size w v1 [Blk w.heap.size (.cells #[.int .i64 n0, .int .i64 n1, .int .i64 n2, .int .i64 n3, .int .i64 n4] 23)]) := S0.out.below b1
  clear b1 S0 CW
  go_wp2_with fail
  refine Calls.mono (KN.out _ _ S1.out) ?_
  rintro e v2 ⟨b, rfl, s2⟩
  have S2 : Hid (Sep w.heap.size w v2 [Disk b d, Blk w.heap.size (.cells #[.int .i64 n0, .int .i64 n1, .int .i64 n2, .int .i64 n3, .int .i64 n4] 23)]) := s2
  clear s2 S1 KN
  go_wp2_with fail
  refine Calls.mono (KF.out _ _ _ S2.out) ?_
  rintro e v3 ⟨f, rfl, s3⟩
  have S3 : Hid (Sep w.heap.size w v3 [File f b d, Blk w.heap.size (.cells #[.int .i64 n0, .int .i64 n1, .int .i64 n2, .int .i64 n3, .int .i64 n4] 23)]) := s3
  clear s3 S2 KF
  go_wp2_with fail
  refine Calls.mono (KL.out _ _ _ _ S3.out) ?_
  rintro e v4 ⟨rfl, s4⟩
  have S4 : Hid (Sep w.heap.size w (v4.alloc (.cells #[.int .i64 0, .int .i64 0, .int .i64 0, .int .i64 0, .int .i64 0] 23)) [File f b d2, Blk w.heap.size (.cells #[.int .i64 n0, .int .i64 n1, .int .i64 n2, .int .i64 n3, .int .i64 n4] 23)]) := s4.alloc _
  clear s4 S3 KL
  go_wp2_with fail
  generalize v4.alloc (.cells #[.int .i64 0, .int .i64 0, .int .i64 0, .int .i64 0, .int .i64 0] 23) = v5 at *
  refine Calls.mono (KM.out _ _ S4.out) ?_
  rintro e v6 ⟨rfl, s6⟩
  have S6 : Hid (Sep w.heap.size w (v6.alloc (.cells #[.int .i64 0, .int .i64 0, .int .i64 0, .int .i64 0, .int .i64 0] 23)) [File f b d2, Blk w.heap.size (.cells #[.int .i64 n0, .int .i64 n1, .int .i64 n2, .int .i64 n3, .int .i64 n4] 23)]) := s6.alloc _
  clear s6 S4 KM
  go_upto_region 8 with fail
  generalize v6.alloc (.cells #[.int .i64 0, .int .i64 0, .int .i64 0, .int .i64 0, .int .i64 0] 23) = v7 at *
  obtain ⟨c0, c1, c2, c3, c4⟩ := S6.out.up1.cl.five
  go_wp2_with fail
  clear c0 c1 c2 c3 c4
  refine Calls.mono (KS.out _ _ S6.out) ?_
  rintro e v8 ⟨rfl, s8⟩
  have B8 : Hid (Below w.heap.size w v8) := s8.bel
  clear s8 S6 KS
  go_wp2
  go_ret
  exact ⟨rfl, B8.out⟩

set_option maxRecDepth 100000 in
set_option maxHeartbeats 2000000 in
theorem none_nm (n : Int) (r : Rt) (k : Nat) (w : World) (T : Tab w) (hk : min (max n 0) 4 = (k : Int)) (hr : r.ok = false) (h2 : ¬ k < 2) : Calls Tryd.prog 7 #[.int .i64 n, rtV r] w fun e w' => e = .returned (.bool true) ∧ Below w.heap.size w w' := by
  have CW : Hid (∀ u, Tab u → Calls Tryd.prog 9 #[] u fun e w' => e = .returned (.bool true) ∧ Below u.heap.size u w') := works_any
  have TS : Hid (Tabs w.heap.size w) := tabs_of T
  have hk4 : k ≤ 4 := by omega
  have EL : (Dk.new (k : Int)).load.1 = (rt0, 70) := by
    exact load_zero (Up.new k (by omega)) (by omega) (new_now (by omega) (by omega)) (new_now (by omega) (by omega))
  have KN : Hid (∀ u L, Sep w.heap.size w u L → Calls Tryd.prog 16 #[.int .i64 k] u fun e w' => ∃ b, e = .returned (ptr b) ∧ Sep w.heap.size w w' (Disk b (Dk.new k) :: L)) := fun u L hu => new_s (k : Int) hu
  have KF : Hid (∀ u b L, Sep w.heap.size w u (Disk b (Dk.new k) :: L) → Calls Tryd.prog 17 #[ptr b] u fun e w' => ∃ f, e = .returned (ptr f) ∧ Sep w.heap.size w w' (File f b (Dk.new k) :: L)) := fun u b L hu => new_f hu
  have KL : Hid (∀ u f b L, Sep w.heap.size w u (File f b (Dk.new k) :: L) → Calls Tryd.prog 19 #[ptr f] u fun e w' => e = .returned (.tuple #[rtV rt0, .int .i64 70]) ∧ Sep w.heap.size w w' (File f b (Dk.new k).load.2 :: L)) := fun u f b L hu => by
    have := load_f TS.out hu
    rw [EL] at this
    exact this
  have KM : Hid (∀ u L, Sep w.heap.size w u L → Calls Tryd.prog 19 #[.pointer none] u fun e w' => e = .returned (.tuple #[rtV rt0, .int .i64 40]) ∧ Sep w.heap.size w w' L) := fun u L hu => load_nil (f := 0) (b := 0) (d := Dk.new 0) TS.out hu
  have KS : Hid (∀ u L, Sep w.heap.size w u L → Calls Tryd.prog 18 #[.pointer none, rtV r] u fun e w' => e = .returned (.int .i64 1) ∧ Sep w.heap.size w w' L) := fun u L hu => store_nilarg (f := 0) (b := 0) (d := Dk.new 0) TS.out hu r hr
  generalize Dk.new (k : Int) = d at *
  generalize d.load.2 = d2 at *
  have h2' : ¬ (k : Int) < 2 := by omega
  clear T EL hr h2
  obtain ⟨n0, n1, n2, n3, n4⟩ := r
  unfold rtV at *
  unfold rt0 at *
  dsimp only at *
  have S0 : Hid (Sep w.heap.size w (w.alloc (.cells #[.int .i64 n0, .int .i64 n1, .int .i64 n2, .int .i64 n3, .int .i64 n4] 23)) [Blk w.heap.size (.cells #[.int .i64 n0, .int .i64 n1, .int .i64 n2, .int .i64 n3, .int .i64 n4] 23)]) := (Sep.nil (Nat.le_refl _) (Below.refl _ _)).addBlk _
  go_enter Tryd.func7, Tryd.ntmps7
  go_wp2_with fail
  generalize w.alloc (.cells #[.int .i64 n0, .int .i64 n1, .int .i64 n2, .int .i64 n3, .int .i64 n4] 23) = v0 at *
  skip
  refine Calls.mono (CW.out _ (TS.out _ S0.out.bel)) ?_
  rintro e v1 ⟨rfl, b1⟩
  have S1 : Hid (Sep w.heap.size w v1 [Blk w.heap.size (.cells #[.int .i64 n0, .int .i64 n1, .int .i64 n2, .int .i64 n3, .int .i64 n4] 23)]) := S0.out.below b1
  clear b1 S0 CW
  go_wp2_with fail
  refine Calls.mono (KN.out _ _ S1.out) ?_
  rintro e v2 ⟨b, rfl, s2⟩
  have S2 : Hid (Sep w.heap.size w v2 [Disk b d, Blk w.heap.size (.cells #[.int .i64 n0, .int .i64 n1, .int .i64 n2, .int .i64 n3, .int .i64 n4] 23)]) := s2
  clear s2 S1 KN
  go_wp2_with fail
  refine Calls.mono (KF.out _ _ _ S2.out) ?_
  rintro e v3 ⟨f, rfl, s3⟩
  have S3 : Hid (Sep w.heap.size w v3 [File f b d, Blk w.heap.size (.cells #[.int .i64 n0, .int .i64 n1, .int .i64 n2, .int .i64 n3, .int .i64 n4] 23)]) := s3
  clear s3 S2 KF
  go_wp2_with fail
  refine Calls.mono (KL.out _ _ _ _ S3.out) ?_
  rintro e v4 ⟨rfl, s4⟩
  have S4 : Hid (Sep w.heap.size w (v4.alloc (.cells #[.int .i64 0, .int .i64 0, .int .i64 0, .int .i64 0, .int .i64 0] 23)) [File f b d2, Blk w.heap.size (.cells #[.int .i64 n0, .int .i64 n1, .int .i64 n2, .int .i64 n3, .int .i64 n4] 23)]) := s4.alloc _
  clear s4 S3 KL
  go_wp2_with fail
  generalize v4.alloc (.cells #[.int .i64 0, .int .i64 0, .int .i64 0, .int .i64 0, .int .i64 0] 23) = v5 at *
  refine Calls.mono (KM.out _ _ S4.out) ?_
  rintro e v6 ⟨rfl, s6⟩
  have S6 : Hid (Sep w.heap.size w (v6.alloc (.cells #[.int .i64 0, .int .i64 0, .int .i64 0, .int .i64 0, .int .i64 0] 23)) [File f b d2, Blk w.heap.size (.cells #[.int .i64 n0, .int .i64 n1, .int .i64 n2, .int .i64 n3, .int .i64 n4] 23)]) := s6.alloc _
  clear s6 S4 KM
  go_upto_region 8 with fail
  generalize v6.alloc (.cells #[.int .i64 0, .int .i64 0, .int .i64 0, .int .i64 0, .int .i64 0] 23) = v7 at *
  obtain ⟨c0, c1, c2, c3, c4⟩ := S6.out.up1.cl.five
  go_wp2_with fail
  clear c0 c1 c2 c3 c4
  refine Calls.mono (KS.out _ _ S6.out) ?_
  rintro e v8 ⟨rfl, s8⟩
  have B8 : Hid (Below w.heap.size w v8) := s8.bel
  clear s8 S6 KS
  go_wp2
  go_ret
  exact ⟨rfl, B8.out⟩

theorem none_walk (n : Int) (r : Rt) (w : World) (T : Tab w) (_ : -9223372036854775808 ≤ n ∧ n ≤ 9223372036854775807) (_ : r.wf) : Calls Tryd.prog 7 #[.int .i64 n, rtV r] w fun e w' => e = .returned (.bool true) ∧ Below w.heap.size w w' := by
  obtain ⟨k, hk⟩ : ∃ k : Nat, min (max n 0) 4 = (k : Int) := ⟨(min (max n 0) 4).toNat, by omega⟩
  cases hr : r.ok
  · by_cases h2 : k < 2
    · exact none_nf n r k w T hk hr h2
    · exact none_nm n r k w T hk hr h2
  · by_cases h2 : k < 2
    · exact none_yf n r k w T hk hr h2
    · exact none_ym n r k w T hk hr h2

end Go.Proofs.YtalljfckjkbieaaDoor

/-
  The walk of rootslot.Store, over a file.
-/
import Derived.Test.YtalljfckjkbieaaDoorRsLoad
namespace Go.Proofs.YtalljfckjkbieaaDoor
open Go.RowKit
set_option linter.unusedVariables false

theorem put_none (i : Int) (s : ByteArray) : (Dk.new 0).putSlot i s = (40, Dk.new 0) := by
  unfold Dk.putSlot
  split
  · exact Dk.put_range rfl (by unfold Dk.has; rw [decide_eq_false_iff_not]; intro c; have : (Dk.new 0).sure.length = 0 := rfl; omega)
  · rfl

set_option maxRecDepth 100000 in
set_option maxHeartbeats 2000000 in
theorem store_arg {B : Nat} {w0 w : World} {f b : Nat} {d : Dk} {l : List Res} (T : Tabs B w0) (h : Sep B w0 w (File f b d :: l)) (r : Rt) (hr : r.ok = false) : Calls Tryd.prog 18 #[ptr f, rtV r] w fun e w' => e = .returned (.int .i64 1) ∧ Sep B w0 w' (File f b d :: l) := by
  have TS : Hid (Tabs B w0) := T
  have E1 : Hid (∀ u, Tab u → Calls Tryd.prog 10 #[rtV r] u fun e w' => e = .returned (.tuple #[.string ⟨#[]⟩, .int .i64 1]) ∧ Below u.heap.size u w') := fun u hu => enc_not hr u hu
  clear hr T
  obtain ⟨n0, n1, n2, n3, n4⟩ := r
  unfold rtV at *
  dsimp only at *
  go_enter Tryd.func18, Tryd.ntmps18
  have S0 : Hid (Sep B w0 (w.alloc (.cells #[.int .i64 n0, .int .i64 n1, .int .i64 n2, .int .i64 n3, .int .i64 n4] 23)) (Blk w.heap.size (.cells #[.int .i64 n0, .int .i64 n1, .int .i64 n2, .int .i64 n3, .int .i64 n4] 23) :: File f b d :: l)) := h.addBlk _
  skip
  go_wp2_with fail
  clear h
  generalize w.alloc (.cells #[.int .i64 n0, .int .i64 n1, .int .i64 n2, .int .i64 n3, .int .i64 n4] 23) = v0 at *
  generalize w.heap.size = qr at *
  refine Calls.mono (E1.out _ (TS.out _ S0.out.bel)) ?_
  rintro e v1 ⟨rfl, b1⟩
  have S1 : Hid (Sep B w0 v1 (Blk qr (.cells #[.int .i64 n0, .int .i64 n1, .int .i64 n2, .int .i64 n3, .int .i64 n4] 23) :: File f b d :: l)) := S0.out.below b1
  clear b1 S0 E1
  go_wp2
  go_ret
  exact ⟨rfl, S1.out.drop⟩

set_option maxRecDepth 100000 in
set_option maxHeartbeats 2000000 in
theorem store_nilarg {B : Nat} {w0 w : World} {f b : Nat} {d : Dk} {l : List Res} (T : Tabs B w0) (h : Sep B w0 w l) (r : Rt) (hr : r.ok = false) : Calls Tryd.prog 18 #[.pointer none, rtV r] w fun e w' => e = .returned (.int .i64 1) ∧ Sep B w0 w' l := by
  have TS : Hid (Tabs B w0) := T
  have E1 : Hid (∀ u, Tab u → Calls Tryd.prog 10 #[rtV r] u fun e w' => e = .returned (.tuple #[.string ⟨#[]⟩, .int .i64 1]) ∧ Below u.heap.size u w') := fun u hu => enc_not hr u hu
  clear hr T
  obtain ⟨n0, n1, n2, n3, n4⟩ := r
  unfold rtV at *
  dsimp only at *
  go_enter Tryd.func18, Tryd.ntmps18
  have S0 : Hid (Sep B w0 (w.alloc (.cells #[.int .i64 n0, .int .i64 n1, .int .i64 n2, .int .i64 n3, .int .i64 n4] 23)) (Blk w.heap.size (.cells #[.int .i64 n0, .int .i64 n1, .int .i64 n2, .int .i64 n3, .int .i64 n4] 23) :: l)) := h.addBlk _
  skip
  go_wp2_with fail
  clear h
  generalize w.alloc (.cells #[.int .i64 n0, .int .i64 n1, .int .i64 n2, .int .i64 n3, .int .i64 n4] 23) = v0 at *
  generalize w.heap.size = qr at *
  refine Calls.mono (E1.out _ (TS.out _ S0.out.bel)) ?_
  rintro e v1 ⟨rfl, b1⟩
  have S1 : Hid (Sep B w0 v1 (Blk qr (.cells #[.int .i64 n0, .int .i64 n1, .int .i64 n2, .int .i64 n3, .int .i64 n4] 23) :: l)) := S0.out.below b1
  clear b1 S0 E1
  go_wp2
  go_ret
  exact ⟨rfl, S1.out.drop⟩

set_option maxRecDepth 100000 in
set_option maxHeartbeats 2000000 in
theorem store_put {B : Nat} {w0 w : World} {f b : Nat} {d : Dk} {l : List Res} (T : Tabs B w0) (h : Sep B w0 w (File f b d :: l)) (r : Rt) (hl : d.pend.length < 100000) (hr : r.ok = true) (hp : (d.putSlot (r.ep % 2) (slotS r)).1 ≠ 0) : Calls Tryd.prog 18 #[ptr f, rtV r] w fun e w' => e = .returned (.int .i64 (d.putSlot (r.ep % 2) (slotS r)).1) ∧ Sep B w0 w' (File f b (d.putSlot (r.ep % 2) (slotS r)).2 :: l) := by
  have TS : Hid (Tabs B w0) := T
  have E1 : Hid (∀ u, Tab u → Calls Tryd.prog 10 #[rtV r] u fun e w' => e = .returned (.tuple #[.string (slotS r), .int .i64 0]) ∧ Below u.heap.size u w') := fun u hu => enc_yes hr u hu
  have hep : 1 ≤ r.ep := (Rt.ok_iff.1 hr).1.1
  have KG : Hid (∀ u, Calls Tryd.prog 31 #[ptr f] u fun e w' => e = .returned (ptr f) ∧ u = w') := fun u => given_f f u
  have KP : Hid (∀ u L, Sep B w0 u (File f b d :: L) → Calls Tryd.prog 32 #[ptr f, .int .i64 (r.ep % 2), .string (slotS r)] u fun e w' => e = .returned (.int .i64 (d.putSlot (r.ep % 2) (slotS r)).1) ∧ Sep B w0 w' (File f b (d.putSlot (r.ep % 2) (slotS r)).2 :: L)) := fun u L hu => by
    exact putSlot_f hu (r.ep % 2) (slotS r) (by rw [slotS_size]; decide) hl
  generalize (d.putSlot (r.ep % 2) (slotS r)).1 = er at *
  generalize (d.putSlot (r.ep % 2) (slotS r)).2 = d1 at *
  generalize slotS r = sr at *
  have hne : (er != 0) = true := bne_iff_ne.2 hp
  clear hr T hp hl
  obtain ⟨n0, n1, n2, n3, n4⟩ := r
  unfold rtV at *
  dsimp only at *
  go_enter Tryd.func18, Tryd.ntmps18
  have S0 : Hid (Sep B w0 (w.alloc (.cells #[.int .i64 n0, .int .i64 n1, .int .i64 n2, .int .i64 n3, .int .i64 n4] 23)) (Blk w.heap.size (.cells #[.int .i64 n0, .int .i64 n1, .int .i64 n2, .int .i64 n3, .int .i64 n4] 23) :: File f b d :: l)) := h.addBlk _
  skip
  go_wp2_with fail
  clear h
  generalize w.alloc (.cells #[.int .i64 n0, .int .i64 n1, .int .i64 n2, .int .i64 n3, .int .i64 n4] 23) = v0 at *
  generalize w.heap.size = qr at *
  refine Calls.mono (E1.out _ (TS.out _ S0.out.bel)) ?_
  rintro e v1 ⟨rfl, b1⟩
  have S1 : Hid (Sep B w0 v1 (Blk qr (.cells #[.int .i64 n0, .int .i64 n1, .int .i64 n2, .int .i64 n3, .int .i64 n4] 23) :: File f b d :: l)) := S0.out.below b1
  clear b1 S0 E1
  go_wp2_with fail
  refine Calls.mono (KG.out _) ?_
  rintro e v2 ⟨rfl, rfl⟩
  have S2 : Hid (Sep B w0 v1 (File f b d :: Blk qr (.cells #[.int .i64 n0, .int .i64 n1, .int .i64 n2, .int .i64 n3, .int .i64 n4] 23) :: l)) := S1.out.up1
  clear S1 KG
  obtain ⟨c0, c1, c2, c3, c4⟩ := S2.out.up1.cl.five
  go_wp2_with fail
  clear c0 c1 c2 c3 c4
  refine Calls.mono (KP.out _ _ S2.out) ?_
  rintro e v3 ⟨rfl, s3⟩
  have S3 : Hid (Sep B w0 v3 (File f b d1 :: Blk qr (.cells #[.int .i64 n0, .int .i64 n1, .int .i64 n2, .int .i64 n3, .int .i64 n4] 23) :: l)) := s3
  clear s3 S2 KP
  go_wp2
  go_ret
  exact ⟨rfl, S3.out.up1.drop⟩

set_option maxRecDepth 100000 in
set_option maxHeartbeats 2000000 in
theorem store_sync {B : Nat} {w0 w : World} {f b : Nat} {d : Dk} {l : List Res} (T : Tabs B w0) (h : Sep B w0 w (File f b d :: l)) (r : Rt) (hl : d.pend.length < 99999) (hr : r.ok = true) (hp : (d.putSlot (r.ep % 2) (slotS r)).1 = 0) : Calls Tryd.prog 18 #[ptr f, rtV r] w fun e w' => e = .returned (.int .i64 (d.putSlot (r.ep % 2) (slotS r)).2.sync.1) ∧ Sep B w0 w' (File f b (d.putSlot (r.ep % 2) (slotS r)).2.sync.2 :: l) := by
  have TS : Hid (Tabs B w0) := T
  have E1 : Hid (∀ u, Tab u → Calls Tryd.prog 10 #[rtV r] u fun e w' => e = .returned (.tuple #[.string (slotS r), .int .i64 0]) ∧ Below u.heap.size u w') := fun u hu => enc_yes hr u hu
  have hep : 1 ≤ r.ep := (Rt.ok_iff.1 hr).1.1
  have KG : Hid (∀ u, Calls Tryd.prog 31 #[ptr f] u fun e w' => e = .returned (ptr f) ∧ u = w') := fun u => given_f f u
  have KP : Hid (∀ u L, Sep B w0 u (File f b d :: L) → Calls Tryd.prog 32 #[ptr f, .int .i64 (r.ep % 2), .string (slotS r)] u fun e w' => e = .returned (.int .i64 (d.putSlot (r.ep % 2) (slotS r)).1) ∧ Sep B w0 w' (File f b (d.putSlot (r.ep % 2) (slotS r)).2 :: L)) := fun u L hu => by
    exact putSlot_f hu (r.ep % 2) (slotS r) (by rw [slotS_size]; decide) (by omega)
  have KS : Hid (∀ u L, Sep B w0 u (File f b (d.putSlot (r.ep % 2) (slotS r)).2 :: L) → Calls Tryd.prog 33 #[ptr f] u fun e w' => e = .returned (.int .i64 (d.putSlot (r.ep % 2) (slotS r)).2.sync.1) ∧ Sep B w0 w' (File f b (d.putSlot (r.ep % 2) (slotS r)).2.sync.2 :: L)) := fun u L hu => sync_f hu (by have := (d.putSlot_sure (r.ep % 2) (slotS r)).2; omega)
  rw [hp] at KP
  generalize (d.putSlot (r.ep % 2) (slotS r)).2.sync.1 = es at *
  generalize (d.putSlot (r.ep % 2) (slotS r)).2.sync.2 = d2 at *
  generalize (d.putSlot (r.ep % 2) (slotS r)).2 = d1 at *
  generalize slotS r = sr at *
  clear hr T hp hl
  obtain ⟨n0, n1, n2, n3, n4⟩ := r
  unfold rtV at *
  dsimp only at *
  go_enter Tryd.func18, Tryd.ntmps18
  have S0 : Hid (Sep B w0 (w.alloc (.cells #[.int .i64 n0, .int .i64 n1, .int .i64 n2, .int .i64 n3, .int .i64 n4] 23)) (Blk w.heap.size (.cells #[.int .i64 n0, .int .i64 n1, .int .i64 n2, .int .i64 n3, .int .i64 n4] 23) :: File f b d :: l)) := h.addBlk _
  skip
  go_wp2_with fail
  clear h
  generalize w.alloc (.cells #[.int .i64 n0, .int .i64 n1, .int .i64 n2, .int .i64 n3, .int .i64 n4] 23) = v0 at *
  generalize w.heap.size = qr at *
  refine Calls.mono (E1.out _ (TS.out _ S0.out.bel)) ?_
  rintro e v1 ⟨rfl, b1⟩
  have S1 : Hid (Sep B w0 v1 (Blk qr (.cells #[.int .i64 n0, .int .i64 n1, .int .i64 n2, .int .i64 n3, .int .i64 n4] 23) :: File f b d :: l)) := S0.out.below b1
  clear b1 S0 E1
  go_wp2_with fail
  refine Calls.mono (KG.out _) ?_
  rintro e v2 ⟨rfl, rfl⟩
  have S2 : Hid (Sep B w0 v1 (File f b d :: Blk qr (.cells #[.int .i64 n0, .int .i64 n1, .int .i64 n2, .int .i64 n3, .int .i64 n4] 23) :: l)) := S1.out.up1
  clear S1 KG
  obtain ⟨c0, c1, c2, c3, c4⟩ := S2.out.up1.cl.five
  go_wp2_with fail
  clear c0 c1 c2 c3 c4
  refine Calls.mono (KP.out _ _ S2.out) ?_
  rintro e v3 ⟨rfl, s3⟩
  have S3 : Hid (Sep B w0 v3 (File f b d1 :: Blk qr (.cells #[.int .i64 n0, .int .i64 n1, .int .i64 n2, .int .i64 n3, .int .i64 n4] 23) :: l)) := s3
  clear s3 S2 KP
  go_wp2_with fail
  refine Calls.mono (KS.out _ _ S3.out) ?_
  rintro e v4 ⟨rfl, s4⟩
  have S4 : Hid (Sep B w0 v4 (File f b d2 :: Blk qr (.cells #[.int .i64 n0, .int .i64 n1, .int .i64 n2, .int .i64 n3, .int .i64 n4] 23) :: l)) := s4
  clear s4 S3 KS
  go_wp2
  go_ret
  exact ⟨rfl, S4.out.up1.drop⟩

set_option maxRecDepth 100000 in
set_option maxHeartbeats 2000000 in
theorem store_nil {B : Nat} {w0 w : World} {f b : Nat} {d : Dk} {l : List Res} (T : Tabs B w0) (h : Sep B w0 w l) (r : Rt) (hr : r.ok = true) : Calls Tryd.prog 18 #[.pointer none, rtV r] w fun e w' => e = .returned (.int .i64 40) ∧ Sep B w0 w' l := by
  have TS : Hid (Tabs B w0) := T
  have E1 : Hid (∀ u, Tab u → Calls Tryd.prog 10 #[rtV r] u fun e w' => e = .returned (.tuple #[.string (slotS r), .int .i64 0]) ∧ Below u.heap.size u w') := fun u hu => enc_yes hr u hu
  have hep : 1 ≤ r.ep := (Rt.ok_iff.1 hr).1.1
  have KG : Hid (∀ u L, Sep B w0 u L → Calls Tryd.prog 31 #[.pointer none] u fun e w' => ∃ f, e = .returned (ptr f) ∧ ∃ b, Sep B w0 w' (File f b (Dk.new 0) :: L)) := fun u L hu => given_nil hu
  have KP : Hid (∀ u f b L, Sep B w0 u (File f b (Dk.new 0) :: L) → Calls Tryd.prog 32 #[ptr f, .int .i64 (r.ep % 2), .string (slotS r)] u fun e w' => e = .returned (.int .i64 40) ∧ Sep B w0 w' (File f b (Dk.new 0) :: L)) := fun u f b L hu => by
    have := putSlot_f hu (r.ep % 2) (slotS r) (by rw [slotS_size]; decide) (by decide)
    rw [put_none] at this
    exact this
  generalize Dk.new 0 = d1 at *
  generalize slotS r = sr at *
  clear hr T
  obtain ⟨n0, n1, n2, n3, n4⟩ := r
  unfold rtV at *
  dsimp only at *
  go_enter Tryd.func18, Tryd.ntmps18
  have S0 : Hid (Sep B w0 (w.alloc (.cells #[.int .i64 n0, .int .i64 n1, .int .i64 n2, .int .i64 n3, .int .i64 n4] 23)) (Blk w.heap.size (.cells #[.int .i64 n0, .int .i64 n1, .int .i64 n2, .int .i64 n3, .int .i64 n4] 23) :: l)) := h.addBlk _
  skip
  go_wp2_with fail
  clear h
  generalize w.alloc (.cells #[.int .i64 n0, .int .i64 n1, .int .i64 n2, .int .i64 n3, .int .i64 n4] 23) = v0 at *
  generalize w.heap.size = qr at *
  refine Calls.mono (E1.out _ (TS.out _ S0.out.bel)) ?_
  rintro e v1 ⟨rfl, b1⟩
  have S1 : Hid (Sep B w0 v1 (Blk qr (.cells #[.int .i64 n0, .int .i64 n1, .int .i64 n2, .int .i64 n3, .int .i64 n4] 23) :: l)) := S0.out.below b1
  clear b1 S0 E1
  go_wp2_with fail
  refine Calls.mono (KG.out _ _ S1.out) ?_
  rintro e v2 ⟨f, rfl, b, s2⟩
  have S2 : Hid (Sep B w0 v2 (File f b d1 :: Blk qr (.cells #[.int .i64 n0, .int .i64 n1, .int .i64 n2, .int .i64 n3, .int .i64 n4] 23) :: l)) := s2
  clear s2 S1 KG
  obtain ⟨c0, c1, c2, c3, c4⟩ := S2.out.up1.cl.five
  go_wp2_with fail
  clear c0 c1 c2 c3 c4
  refine Calls.mono (KP.out _ _ _ _ S2.out) ?_
  rintro e v3 ⟨rfl, s3⟩
  have S3 : Hid (Sep B w0 v3 (File f b d1 :: Blk qr (.cells #[.int .i64 n0, .int .i64 n1, .int .i64 n2, .int .i64 n3, .int .i64 n4] 23) :: l)) := s3
  clear s3 S2 KP
  go_wp2
  go_ret
  exact ⟨rfl, S3.out.drop.drop⟩

theorem store_f {B : Nat} {w0 w : World} {f b : Nat} {d : Dk} {l : List Res} (T : Tabs B w0) (h : Sep B w0 w (File f b d :: l)) (r : Rt) (hl : d.pend.length < 99999) : Calls Tryd.prog 18 #[ptr f, rtV r] w fun e w' => e = .returned (.int .i64 (d.store r).1) ∧ Sep B w0 w' (File f b (d.store r).2 :: l) := by
  unfold Dk.store
  cases hr : r.ok
  · rw [if_neg (by decide)]; exact store_arg T h r hr
  · rw [if_pos rfl]
    by_cases hp : (d.putSlot (r.ep % 2) (slotS r)).1 = 0
    · rw [if_pos hp]; exact store_sync T h r hl hr hp
    · rw [if_neg hp]; exact store_put T h r (by omega) hr hp

end Go.Proofs.YtalljfckjkbieaaDoor

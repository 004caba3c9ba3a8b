/-
  The walks of rootslot.given, Load and Store, over a file.
-/
import Derived.Test.YtalljfckjkbieaaDoorRsWorks
import Derived.Test.YtalljfckjkbieaaDoorPfUp
namespace Go.Proofs.YtalljfckjkbieaaDoor
open Go.RowKit
set_option linter.unusedVariables false

section
variable {B : Nat} {w0 w w' : World} {f b q : Nat} {d : Dk} {l : List Res} {cs : Array Value} {t : TypeId}
theorem Sep.cl (h : Sep B w0 w (Blk q (.cells cs t) :: l)) : Cl w q cs t := h.blk
theorem Sep.blkSet (h : Sep B w0 w (Blk q (.cells cs t) :: l)) (i : Nat) (v : Value) : Sep B w0 (w.setCell ⟨q, i, none⟩ v) (Blk q (.cells (cs.setIfInBounds i v) t) :: l) :=
  h.step (good_blk _ _) fun X hX => ⟨X, ⟨Cl.set hX.1 i v, hX.2⟩, Turn.setCell w ((hX.2 q).2 rfl) v, fun k hk => .inl hk⟩
theorem Sep.blkSet5 {x0 x1 x2 x3 x4 : Value} (h : Sep B w0 w (Blk q (.cells #[x0, x1, x2, x3, x4] t) :: l)) (a b c d e : Value) : Sep B w0 (set5 w q a b c d e) (Blk q (.cells #[a, b, c, d, e] t) :: l) :=
  ((((h.blkSet 0 a).blkSet 1 b).blkSet 2 c).blkSet 3 d).blkSet 4 e

/-- What Load answers, and Store. -/
def Dk.load (d : Dk) : (Rt × Int) × Dk :=
  if (d.slot 0).1.2 = 0 then
    (if ((d.slot 0).2.slot 1).1.2 = 0 then ((pkR (d.slot 0).1.1.data.toList ((d.slot 0).2.slot 1).1.1.data.toList, pkE (d.slot 0).1.1.data.toList ((d.slot 0).2.slot 1).1.1.data.toList), ((d.slot 0).2.slot 1).2)
      else ((rt0, ((d.slot 0).2.slot 1).1.2), ((d.slot 0).2.slot 1).2))
  else ((rt0, (d.slot 0).1.2), (d.slot 0).2)
def slotS (r : Rt) : ByteArray := ⟨(slotL r).toArray⟩
theorem slotS_size (r : Rt) : (slotS r).size = 256 := by unfold slotS; rw [ba_size, slotL_length]
def Dk.store (d : Dk) (r : Rt) : Int × Dk :=
  if r.ok = true then (if (d.putSlot (r.ep % 2) (slotS r)).1 = 0 then (d.putSlot (r.ep % 2) (slotS r)).2.sync else d.putSlot (r.ep % 2) (slotS r)) else (1, d)

theorem Dk.slot_size (ok : d.Ok) (i : Int) : (d.slot i).1.1.size ≤ maxLen := by
  unfold Dk.slot; split
  · exact Dk.get_size ok i
  · unfold maxLen; simp

set_option maxHeartbeats 400000 in
theorem given_f (f : Nat) (w : World) : Calls Tryd.prog 31 #[ptr f] w fun e w' => e = .returned (ptr f) ∧ w = w' := by
  unfold ptr
  go_enter Tryd.func31, Tryd.ntmps31
  go_wp2
  go_ret
  exact ⟨rfl, rfl⟩

set_option maxHeartbeats 400000 in
theorem given_nil (h : Sep B w0 w l) : Calls Tryd.prog 31 #[.pointer none] w fun e w' => ∃ f, e = .returned (ptr f) ∧ ∃ b, Sep B w0 w' (File f b (Dk.new 0) :: l) := by
  have C : Hid _ := new_fnil h
  clear h
  go_enter Tryd.func31, Tryd.ntmps31
  go_wp2_with fail
  refine Calls.mono C.out ?_
  rintro e w1 ⟨f, rfl, b, s1⟩
  have S1 : Hid (Sep B w0 w1 (File f b (Dk.new 0) :: l)) := s1
  clear s1 C
  go_wp2
  go_ret
  exact ⟨f, rfl, b, S1.out⟩
end

set_option maxRecDepth 100000 in
set_option maxHeartbeats 2000000 in
theorem load_nil {B : Nat} {w0 w : World} {f b : Nat} {d : Dk} {l : List Res} (T : Tabs B w0) (h : Sep B w0 w l)  : Calls Tryd.prog 19 #[.pointer none] w fun e w' => e = .returned (.tuple #[rtV rt0, .int .i64 40]) ∧ Sep B w0 w' l := by
  have KG : Hid (∀ u L, Sep B w0 u L → Calls Tryd.prog 31 #[.pointer none] u fun e w' => ∃ f, e = .returned (ptr f) ∧ ∃ b, Sep B w0 w' (File f b (Dk.new 0) :: L)) := fun u L hu => given_nil hu
  have K0 : Hid (∀ u f b L, Sep B w0 u (File f b (Dk.new 0) :: L) → Calls Tryd.prog 34 #[ptr f, .int .i64 0] u fun e w' => e = .returned (.tuple #[.string ByteArray.empty, .int .i64 40]) ∧ Sep B w0 w' (File f b (Dk.new 0) :: L)) := fun u f b L hu => by
    have := slot_f hu 0
    rw [show (Dk.new 0).slot 0 = ((ByteArray.empty, 40), Dk.new 0) from rfl] at this
    exact this
  generalize Dk.new 0 = d at *
  have TS : Hid (Tabs B w0) := T
  unfold rtV
  (try unfold rt0)
  dsimp only
  go_enter Tryd.func19, Tryd.ntmps19
  go_wp2_with fail
  have S0 : Hid (Sep B w0 (w.alloc (.cells #[.int .i64 0, .int .i64 0, .int .i64 0, .int .i64 0, .int .i64 0] 23)) (Blk w.heap.size (.cells #[.int .i64 0, .int .i64 0, .int .i64 0, .int .i64 0, .int .i64 0] 23) :: l)) := h.addBlk _
  clear h
  generalize w.alloc (.cells #[.int .i64 0, .int .i64 0, .int .i64 0, .int .i64 0, .int .i64 0] 23) = v0 at *
  generalize w.heap.size = qr at *
  refine Calls.mono (KG.out _ _ S0.out) ?_
  rintro e v1 ⟨f, rfl, b, s1⟩
  have S1 : Hid (Sep B w0 v1 (File f b d :: Blk qr (.cells #[.int .i64 0, .int .i64 0, .int .i64 0, .int .i64 0, .int .i64 0] 23) :: l)) := s1
  clear s1 S0 KG
  go_wp2_with fail
  have S2 : Hid (Sep B w0 (v1.alloc (.cells #[.string ⟨#[]⟩, .string ⟨#[]⟩] 75)) (File f b d :: Blk v1.heap.size (.cells #[.string ⟨#[]⟩, .string ⟨#[]⟩] 75) :: Blk qr (.cells #[.int .i64 0, .int .i64 0, .int .i64 0, .int .i64 0, .int .i64 0] 23) :: l)) := (S1.out.addBlk _).up1
  clear S1
  generalize v1.alloc (.cells #[.string ⟨#[]⟩, .string ⟨#[]⟩] 75) = v2 at *
  generalize v1.heap.size = qt at *
  refine wp_loop_rounds 3 ?_
  rw [rounds_succ]
  go_wp2_with fail
  refine Calls.mono (K0.out _ _ _ _ S2.out) ?_
  rintro e v3 ⟨rfl, s3⟩
  have S3 : Hid (Sep B w0 v3 (File f b d :: Blk qt (.cells #[.string ⟨#[]⟩, .string ⟨#[]⟩] 75) :: Blk qr (.cells #[.int .i64 0, .int .i64 0, .int .i64 0, .int .i64 0, .int .i64 0] 23) :: l)) := s3
  clear s3 S2 K0
  obtain ⟨c0, c1, c2, c3, c4⟩ := S3.out.up2.cl.five
  have g0 := S3.out.up2.cl.frozen 0
  have g1 := S3.out.up2.cl.frozen 1
  have g2 := S3.out.up2.cl.frozen 2
  have g3 := S3.out.up2.cl.frozen 3
  have g4 := S3.out.up2.cl.frozen 4
  have SF : Hid (Sep B w0 (((((v3.setCell ⟨qr, 0, none⟩ (.int .i64 0)).setCell ⟨qr, 1, none⟩ (.int .i64 0)).setCell ⟨qr, 2, none⟩ (.int .i64 0)).setCell ⟨qr, 3, none⟩ (.int .i64 0)).setCell ⟨qr, 4, none⟩ (.int .i64 0)) (Blk qr (.cells #[.int .i64 0, .int .i64 0, .int .i64 0, .int .i64 0, .int .i64 0] 23) :: File f b d :: Blk qt (.cells #[.string ⟨#[]⟩, .string ⟨#[]⟩] 75) :: l)) := Sep.blkSet5 S3.out.up2 _ _ _ _ _
  go_wp2
  (try simp only [Exit.inBlock, Exit.then])
  generalize ((((v3.setCell ⟨qr, 0, none⟩ (.int .i64 0)).setCell ⟨qr, 1, none⟩ (.int .i64 0)).setCell ⟨qr, 2, none⟩ (.int .i64 0)).setCell ⟨qr, 3, none⟩ (.int .i64 0)).setCell ⟨qr, 4, none⟩ (.int .i64 0) = vf at *
  clear c0 c1 c2 c3 c4 g0 g1 g2 g3 g4
  obtain ⟨c0, c1, c2, c3, c4⟩ := SF.out.cl.five
  refine bodyPost_ret (v := .tuple #[.agg #[.int .i64 0, .int .i64 0, .int .i64 0, .int .i64 0, .int .i64 0], .int .i64 40]) ?_ rfl ⟨rfl, SF.out.drop.drop.drop⟩
  · rw [results_cell_tmp rfl]
    go_simp

set_option maxRecDepth 100000 in
set_option maxHeartbeats 2000000 in
theorem load_e0 {B : Nat} {w0 w : World} {f b : Nat} {d : Dk} {l : List Res} (T : Tabs B w0) (h : Sep B w0 w (File f b d :: l)) (h0 : (d.slot 0).1.2 ≠ 0) : Calls Tryd.prog 19 #[ptr f] w fun e w' => e = .returned (.tuple #[rtV rt0, .int .i64 (d.slot 0).1.2]) ∧ Sep B w0 w' (File f b (d.slot 0).2 :: l) := by
  have KG : Hid (∀ u, Calls Tryd.prog 31 #[ptr f] u fun e w' => e = .returned (ptr f) ∧ u = w') := fun u => given_f f u
  have K0 : Hid (∀ u L, Sep B w0 u (File f b d :: L) → Calls Tryd.prog 34 #[ptr f, .int .i64 0] u fun e w' => e = .returned (.tuple #[.string (d.slot 0).1.1, .int .i64 (d.slot 0).1.2]) ∧ Sep B w0 w' (File f b (d.slot 0).2 :: L)) := fun u L hu => slot_f hu 0
  generalize (d.slot 0).1.1 = s0 at *
  generalize hE : (d.slot 0).1.2 = e0 at *
  generalize (d.slot 0).2 = d1 at *
  have hne : (e0 != 0) = true := bne_iff_ne.2 h0
  clear hE h0
  have TS : Hid (Tabs B w0) := T
  unfold rtV
  (try unfold rt0)
  dsimp only
  go_enter Tryd.func19, Tryd.ntmps19
  go_wp2_with fail
  have S0 : Hid (Sep B w0 (w.alloc (.cells #[.int .i64 0, .int .i64 0, .int .i64 0, .int .i64 0, .int .i64 0] 23)) (Blk w.heap.size (.cells #[.int .i64 0, .int .i64 0, .int .i64 0, .int .i64 0, .int .i64 0] 23) :: File f b d :: l)) := h.addBlk _
  clear h
  generalize w.alloc (.cells #[.int .i64 0, .int .i64 0, .int .i64 0, .int .i64 0, .int .i64 0] 23) = v0 at *
  generalize w.heap.size = qr at *
  refine Calls.mono (KG.out _) ?_
  rintro e v1 ⟨rfl, rfl⟩
  have S1 : Hid (Sep B w0 v0 (File f b d :: Blk qr (.cells #[.int .i64 0, .int .i64 0, .int .i64 0, .int .i64 0, .int .i64 0] 23) :: l)) := S0.out.up1
  clear S0 KG
  go_wp2_with fail
  have S2 : Hid (Sep B w0 (v0.alloc (.cells #[.string ⟨#[]⟩, .string ⟨#[]⟩] 75)) (File f b d :: Blk v0.heap.size (.cells #[.string ⟨#[]⟩, .string ⟨#[]⟩] 75) :: Blk qr (.cells #[.int .i64 0, .int .i64 0, .int .i64 0, .int .i64 0, .int .i64 0] 23) :: l)) := (S1.out.addBlk _).up1
  clear S1
  generalize v0.alloc (.cells #[.string ⟨#[]⟩, .string ⟨#[]⟩] 75) = v2 at *
  generalize v0.heap.size = qt at *
  refine wp_loop_rounds 3 ?_
  rw [rounds_succ]
  go_wp2_with fail
  refine Calls.mono (K0.out _ _ S2.out) ?_
  rintro e v3 ⟨rfl, s3⟩
  have S3 : Hid (Sep B w0 v3 (File f b d1 :: Blk qt (.cells #[.string ⟨#[]⟩, .string ⟨#[]⟩] 75) :: Blk qr (.cells #[.int .i64 0, .int .i64 0, .int .i64 0, .int .i64 0, .int .i64 0] 23) :: l)) := s3
  clear s3 S2 K0
  obtain ⟨c0, c1, c2, c3, c4⟩ := S3.out.up2.cl.five
  have g0 := S3.out.up2.cl.frozen 0
  have g1 := S3.out.up2.cl.frozen 1
  have g2 := S3.out.up2.cl.frozen 2
  have g3 := S3.out.up2.cl.frozen 3
  have g4 := S3.out.up2.cl.frozen 4
  have SF : Hid (Sep B w0 (((((v3.setCell ⟨qr, 0, none⟩ (.int .i64 0)).setCell ⟨qr, 1, none⟩ (.int .i64 0)).setCell ⟨qr, 2, none⟩ (.int .i64 0)).setCell ⟨qr, 3, none⟩ (.int .i64 0)).setCell ⟨qr, 4, none⟩ (.int .i64 0)) (Blk qr (.cells #[.int .i64 0, .int .i64 0, .int .i64 0, .int .i64 0, .int .i64 0] 23) :: File f b d1 :: Blk qt (.cells #[.string ⟨#[]⟩, .string ⟨#[]⟩] 75) :: l)) := Sep.blkSet5 S3.out.up2 _ _ _ _ _
  go_wp2
  (try simp only [Exit.inBlock, Exit.then])
  generalize ((((v3.setCell ⟨qr, 0, none⟩ (.int .i64 0)).setCell ⟨qr, 1, none⟩ (.int .i64 0)).setCell ⟨qr, 2, none⟩ (.int .i64 0)).setCell ⟨qr, 3, none⟩ (.int .i64 0)).setCell ⟨qr, 4, none⟩ (.int .i64 0) = vf at *
  clear c0 c1 c2 c3 c4 g0 g1 g2 g3 g4
  obtain ⟨c0, c1, c2, c3, c4⟩ := SF.out.cl.five
  refine bodyPost_ret (v := .tuple #[.agg #[.int .i64 0, .int .i64 0, .int .i64 0, .int .i64 0, .int .i64 0], .int .i64 e0]) ?_ rfl ⟨rfl, SF.out.drop.up1.drop⟩
  · rw [results_cell_tmp rfl]
    go_simp

set_option maxRecDepth 100000 in
set_option maxHeartbeats 2000000 in
theorem load_e1 {B : Nat} {w0 w : World} {f b : Nat} {d : Dk} {l : List Res} (T : Tabs B w0) (h : Sep B w0 w (File f b d :: l)) (h0 : (d.slot 0).1.2 = 0) (h1 : ((d.slot 0).2.slot 1).1.2 ≠ 0) : Calls Tryd.prog 19 #[ptr f] w fun e w' => e = .returned (.tuple #[rtV rt0, .int .i64 ((d.slot 0).2.slot 1).1.2]) ∧ Sep B w0 w' (File f b ((d.slot 0).2.slot 1).2 :: l) := by
  have KG : Hid (∀ u, Calls Tryd.prog 31 #[ptr f] u fun e w' => e = .returned (ptr f) ∧ u = w') := fun u => given_f f u
  have K0 : Hid (∀ u L, Sep B w0 u (File f b d :: L) → Calls Tryd.prog 34 #[ptr f, .int .i64 0] u fun e w' => e = .returned (.tuple #[.string (d.slot 0).1.1, .int .i64 (d.slot 0).1.2]) ∧ Sep B w0 w' (File f b (d.slot 0).2 :: L)) := fun u L hu => slot_f hu 0
  have K1 : Hid (∀ u L, Sep B w0 u (File f b (d.slot 0).2 :: L) → Calls Tryd.prog 34 #[ptr f, .int .i64 1] u fun e w' => e = .returned (.tuple #[.string ((d.slot 0).2.slot 1).1.1, .int .i64 ((d.slot 0).2.slot 1).1.2]) ∧ Sep B w0 w' (File f b ((d.slot 0).2.slot 1).2 :: L)) := fun u L hu => slot_f hu 1
  rw [h0] at K0
  generalize ((d.slot 0).2.slot 1).1.1 = s1 at *
  generalize hE : ((d.slot 0).2.slot 1).1.2 = e1 at *
  generalize ((d.slot 0).2.slot 1).2 = d2 at *
  generalize (d.slot 0).1.1 = s0 at *
  generalize (d.slot 0).2 = d1 at *
  have hne : (e1 != 0) = true := bne_iff_ne.2 h1
  clear hE h1 h0
  have TS : Hid (Tabs B w0) := T
  unfold rtV
  (try unfold rt0)
  dsimp only
  go_enter Tryd.func19, Tryd.ntmps19
  go_wp2_with fail
  have S0 : Hid (Sep B w0 (w.alloc (.cells #[.int .i64 0, .int .i64 0, .int .i64 0, .int .i64 0, .int .i64 0] 23)) (Blk w.heap.size (.cells #[.int .i64 0, .int .i64 0, .int .i64 0, .int .i64 0, .int .i64 0] 23) :: File f b d :: l)) := h.addBlk _
  clear h
  generalize w.alloc (.cells #[.int .i64 0, .int .i64 0, .int .i64 0, .int .i64 0, .int .i64 0] 23) = v0 at *
  generalize w.heap.size = qr at *
  refine Calls.mono (KG.out _) ?_
  rintro e v1 ⟨rfl, rfl⟩
  have S1 : Hid (Sep B w0 v0 (File f b d :: Blk qr (.cells #[.int .i64 0, .int .i64 0, .int .i64 0, .int .i64 0, .int .i64 0] 23) :: l)) := S0.out.up1
  clear S0 KG
  go_wp2_with fail
  have S2 : Hid (Sep B w0 (v0.alloc (.cells #[.string ⟨#[]⟩, .string ⟨#[]⟩] 75)) (File f b d :: Blk v0.heap.size (.cells #[.string ⟨#[]⟩, .string ⟨#[]⟩] 75) :: Blk qr (.cells #[.int .i64 0, .int .i64 0, .int .i64 0, .int .i64 0, .int .i64 0] 23) :: l)) := (S1.out.addBlk _).up1
  clear S1
  generalize v0.alloc (.cells #[.string ⟨#[]⟩, .string ⟨#[]⟩] 75) = v2 at *
  generalize v0.heap.size = qt at *
  refine wp_loop_rounds 3 ?_
  rw [rounds_succ]
  go_wp2_with fail
  refine Calls.mono (K0.out _ _ S2.out) ?_
  rintro e v3 ⟨rfl, s3⟩
  have S3 : Hid (Sep B w0 v3 (File f b d1 :: Blk qt (.cells #[.string ⟨#[]⟩, .string ⟨#[]⟩] 75) :: Blk qr (.cells #[.int .i64 0, .int .i64 0, .int .i64 0, .int .i64 0, .int .i64 0] 23) :: l)) := s3
  clear s3 S2 K0
  have y0 : v3.cell? ⟨qt, 0, none⟩ = some (.string ⟨#[]⟩) := S3.out.up1.cl.cell 0
  have y1 := S3.out.up1.cl.frozen 0
  have S4 : Hid (Sep B w0 (v3.setCell ⟨qt, 0, none⟩ (.string s0)) (File f b d1 :: Blk qt (.cells #[.string s0, .string ⟨#[]⟩] 75) :: Blk qr (.cells #[.int .i64 0, .int .i64 0, .int .i64 0, .int .i64 0, .int .i64 0] 23) :: l)) := (Sep.blkSet S3.out.up1 0 _).up1
  clear S3
  go_wp2_with fail
  generalize v3.setCell ⟨qt, 0, none⟩ (.string s0) = v4 at *
  clear y0 y1
  rw [rounds_succ]
  go_wp2_with fail
  refine Calls.mono (K1.out _ _ S4.out) ?_
  rintro e v5 ⟨rfl, s5⟩
  have S5 : Hid (Sep B w0 v5 (File f b d2 :: Blk qt (.cells #[.string s0, .string ⟨#[]⟩] 75) :: Blk qr (.cells #[.int .i64 0, .int .i64 0, .int .i64 0, .int .i64 0, .int .i64 0] 23) :: l)) := s5
  clear s5 S4 K1
  obtain ⟨c0, c1, c2, c3, c4⟩ := S5.out.up2.cl.five
  have g0 := S5.out.up2.cl.frozen 0
  have g1 := S5.out.up2.cl.frozen 1
  have g2 := S5.out.up2.cl.frozen 2
  have g3 := S5.out.up2.cl.frozen 3
  have g4 := S5.out.up2.cl.frozen 4
  have SF : Hid (Sep B w0 (((((v5.setCell ⟨qr, 0, none⟩ (.int .i64 0)).setCell ⟨qr, 1, none⟩ (.int .i64 0)).setCell ⟨qr, 2, none⟩ (.int .i64 0)).setCell ⟨qr, 3, none⟩ (.int .i64 0)).setCell ⟨qr, 4, none⟩ (.int .i64 0)) (Blk qr (.cells #[.int .i64 0, .int .i64 0, .int .i64 0, .int .i64 0, .int .i64 0] 23) :: File f b d2 :: Blk qt (.cells #[.string s0, .string ⟨#[]⟩] 75) :: l)) := Sep.blkSet5 S5.out.up2 _ _ _ _ _
  go_wp2
  (try simp only [Exit.inBlock, Exit.then])
  generalize ((((v5.setCell ⟨qr, 0, none⟩ (.int .i64 0)).setCell ⟨qr, 1, none⟩ (.int .i64 0)).setCell ⟨qr, 2, none⟩ (.int .i64 0)).setCell ⟨qr, 3, none⟩ (.int .i64 0)).setCell ⟨qr, 4, none⟩ (.int .i64 0) = vf at *
  clear c0 c1 c2 c3 c4 g0 g1 g2 g3 g4
  obtain ⟨c0, c1, c2, c3, c4⟩ := SF.out.cl.five
  refine bodyPost_ret (v := .tuple #[.agg #[.int .i64 0, .int .i64 0, .int .i64 0, .int .i64 0, .int .i64 0], .int .i64 e1]) ?_ rfl ⟨rfl, SF.out.drop.up1.drop⟩
  · rw [results_cell_tmp rfl]
    go_simp

set_option maxRecDepth 100000 in
set_option maxHeartbeats 2000000 in
theorem load_ok {B : Nat} {w0 w : World} {f b : Nat} {d : Dk} {l : List Res} (T : Tabs B w0) (h : Sep B w0 w (File f b d :: l)) (h0 : (d.slot 0).1.2 = 0) (h1 : ((d.slot 0).2.slot 1).1.2 = 0) : Calls Tryd.prog 19 #[ptr f] w fun e w' => e = .returned (.tuple #[rtV (pkR (d.slot 0).1.1.data.toList ((d.slot 0).2.slot 1).1.1.data.toList), .int .i64 (pkE (d.slot 0).1.1.data.toList ((d.slot 0).2.slot 1).1.1.data.toList)]) ∧ Sep B w0 w' (File f b ((d.slot 0).2.slot 1).2 :: l) := by
  have KG : Hid (∀ u, Calls Tryd.prog 31 #[ptr f] u fun e w' => e = .returned (ptr f) ∧ u = w') := fun u => given_f f u
  have K0 : Hid (∀ u L, Sep B w0 u (File f b d :: L) → Calls Tryd.prog 34 #[ptr f, .int .i64 0] u fun e w' => e = .returned (.tuple #[.string (d.slot 0).1.1, .int .i64 (d.slot 0).1.2]) ∧ Sep B w0 w' (File f b (d.slot 0).2 :: L)) := fun u L hu => slot_f hu 0
  have K1 : Hid (∀ u L, Sep B w0 u (File f b (d.slot 0).2 :: L) → Calls Tryd.prog 34 #[ptr f, .int .i64 1] u fun e w' => e = .returned (.tuple #[.string ((d.slot 0).2.slot 1).1.1, .int .i64 ((d.slot 0).2.slot 1).1.2]) ∧ Sep B w0 w' (File f b ((d.slot 0).2.slot 1).2 :: L)) := fun u L hu => slot_f hu 1
  have ok0 : (d.slot 0).2.Ok := by
    unfold Dk.slot
    split
    · exact h.fok.get 0
    · exact h.fok
  have PK : Hid (∀ u, Tab u → Calls Tryd.prog 14 #[.string (d.slot 0).1.1, .string ((d.slot 0).2.slot 1).1.1] u fun e w' => e = .returned (.tuple #[rtV (pkR (d.slot 0).1.1.data.toList ((d.slot 0).2.slot 1).1.1.data.toList), .int .i64 (pkE (d.slot 0).1.1.data.toList ((d.slot 0).2.slot 1).1.1.data.toList)]) ∧ Below u.heap.size u w') := fun u hu => pick_any _ _ (Dk.slot_size h.fok 0) (Dk.slot_size ok0 1) u hu
  clear ok0
  generalize pkR (d.slot 0).1.1.data.toList ((d.slot 0).2.slot 1).1.1.data.toList = x at *
  generalize pkE (d.slot 0).1.1.data.toList ((d.slot 0).2.slot 1).1.1.data.toList = er at *
  obtain ⟨n0, n1, n2, n3, n4⟩ := x
  rw [h0] at K0
  generalize ((d.slot 0).2.slot 1).1.1 = s1 at *
  rw [h1] at K1
  generalize ((d.slot 0).2.slot 1).2 = d2 at *
  generalize (d.slot 0).1.1 = s0 at *
  generalize (d.slot 0).2 = d1 at *
  clear h0 h1
  have TS : Hid (Tabs B w0) := T
  unfold rtV
  (try unfold rt0)
  dsimp only
  unfold rtV at PK
  dsimp only at PK
  go_enter Tryd.func19, Tryd.ntmps19
  go_wp2_with fail
  have S0 : Hid (Sep B w0 (w.alloc (.cells #[.int .i64 0, .int .i64 0, .int .i64 0, .int .i64 0, .int .i64 0] 23)) (Blk w.heap.size (.cells #[.int .i64 0, .int .i64 0, .int .i64 0, .int .i64 0, .int .i64 0] 23) :: File f b d :: l)) := h.addBlk _
  clear h
  generalize w.alloc (.cells #[.int .i64 0, .int .i64 0, .int .i64 0, .int .i64 0, .int .i64 0] 23) = v0 at *
  generalize w.heap.size = qr at *
  refine Calls.mono (KG.out _) ?_
  rintro e v1 ⟨rfl, rfl⟩
  have S1 : Hid (Sep B w0 v0 (File f b d :: Blk qr (.cells #[.int .i64 0, .int .i64 0, .int .i64 0, .int .i64 0, .int .i64 0] 23) :: l)) := S0.out.up1
  clear S0 KG
  go_wp2_with fail
  have S2 : Hid (Sep B w0 (v0.alloc (.cells #[.string ⟨#[]⟩, .string ⟨#[]⟩] 75)) (File f b d :: Blk v0.heap.size (.cells #[.string ⟨#[]⟩, .string ⟨#[]⟩] 75) :: Blk qr (.cells #[.int .i64 0, .int .i64 0, .int .i64 0, .int .i64 0, .int .i64 0] 23) :: l)) := (S1.out.addBlk _).up1
  clear S1
  generalize v0.alloc (.cells #[.string ⟨#[]⟩, .string ⟨#[]⟩] 75) = v2 at *
  generalize v0.heap.size = qt at *
  refine wp_loop_rounds 3 ?_
  rw [rounds_succ]
  go_wp2_with fail
  refine Calls.mono (K0.out _ _ S2.out) ?_
  rintro e v3 ⟨rfl, s3⟩
  have S3 : Hid (Sep B w0 v3 (File f b d1 :: Blk qt (.cells #[.string ⟨#[]⟩, .string ⟨#[]⟩] 75) :: Blk qr (.cells #[.int .i64 0, .int .i64 0, .int .i64 0, .int .i64 0, .int .i64 0] 23) :: l)) := s3
  clear s3 S2 K0
  have y0 : v3.cell? ⟨qt, 0, none⟩ = some (.string ⟨#[]⟩) := S3.out.up1.cl.cell 0
  have y1 := S3.out.up1.cl.frozen 0
  have S4 : Hid (Sep B w0 (v3.setCell ⟨qt, 0, none⟩ (.string s0)) (File f b d1 :: Blk qt (.cells #[.string s0, .string ⟨#[]⟩] 75) :: Blk qr (.cells #[.int .i64 0, .int .i64 0, .int .i64 0, .int .i64 0, .int .i64 0] 23) :: l)) := (Sep.blkSet S3.out.up1 0 _).up1
  clear S3
  go_wp2_with fail
  generalize v3.setCell ⟨qt, 0, none⟩ (.string s0) = v4 at *
  clear y0 y1
  rw [rounds_succ]
  go_wp2_with fail
  refine Calls.mono (K1.out _ _ S4.out) ?_
  rintro e v5 ⟨rfl, s5⟩
  have S5 : Hid (Sep B w0 v5 (File f b d2 :: Blk qt (.cells #[.string s0, .string ⟨#[]⟩] 75) :: Blk qr (.cells #[.int .i64 0, .int .i64 0, .int .i64 0, .int .i64 0, .int .i64 0] 23) :: l)) := s5
  clear s5 S4 K1
  have y0 : v5.cell? ⟨qt, 1, none⟩ = some (.string ⟨#[]⟩) := S5.out.up1.cl.cell 1
  have y1 := S5.out.up1.cl.frozen 1
  have S6 : Hid (Sep B w0 (v5.setCell ⟨qt, 1, none⟩ (.string s1)) (File f b d2 :: Blk qt (.cells #[.string s0, .string s1] 75) :: Blk qr (.cells #[.int .i64 0, .int .i64 0, .int .i64 0, .int .i64 0, .int .i64 0] 23) :: l)) := (Sep.blkSet S5.out.up1 1 _).up1
  clear S5
  go_wp2_with fail
  generalize v5.setCell ⟨qt, 1, none⟩ (.string s1) = v6 at *
  clear y0 y1
  rw [rounds_succ]
  have y0 : v6.cell? ⟨qt, 0, none⟩ = some (.string s0) := S6.out.up1.cl.cell 0
  have y1 : v6.cell? ⟨qt, 1, none⟩ = some (.string s1) := S6.out.up1.cl.cell 1
  go_wp2_with fail
  clear y0 y1
  refine Calls.mono (PK.out _ (TS.out _ S6.out.bel)) ?_
  rintro e v7 ⟨rfl, b7⟩
  have S7 : Hid (Sep B w0 v7 (File f b d2 :: Blk qt (.cells #[.string s0, .string s1] 75) :: Blk qr (.cells #[.int .i64 0, .int .i64 0, .int .i64 0, .int .i64 0, .int .i64 0] 23) :: l)) := S6.out.below b7
  clear b7 S6 PK
  obtain ⟨c0, c1, c2, c3, c4⟩ := S7.out.up2.cl.five
  have g0 := S7.out.up2.cl.frozen 0
  have g1 := S7.out.up2.cl.frozen 1
  have g2 := S7.out.up2.cl.frozen 2
  have g3 := S7.out.up2.cl.frozen 3
  have g4 := S7.out.up2.cl.frozen 4
  have SF : Hid (Sep B w0 (((((v7.setCell ⟨qr, 0, none⟩ (.int .i64 n0)).setCell ⟨qr, 1, none⟩ (.int .i64 n1)).setCell ⟨qr, 2, none⟩ (.int .i64 n2)).setCell ⟨qr, 3, none⟩ (.int .i64 n3)).setCell ⟨qr, 4, none⟩ (.int .i64 n4)) (Blk qr (.cells #[.int .i64 n0, .int .i64 n1, .int .i64 n2, .int .i64 n3, .int .i64 n4] 23) :: File f b d2 :: Blk qt (.cells #[.string s0, .string s1] 75) :: l)) := Sep.blkSet5 S7.out.up2 _ _ _ _ _
  go_wp2
  (try simp only [Exit.inBlock, Exit.then])
  generalize ((((v7.setCell ⟨qr, 0, none⟩ (.int .i64 n0)).setCell ⟨qr, 1, none⟩ (.int .i64 n1)).setCell ⟨qr, 2, none⟩ (.int .i64 n2)).setCell ⟨qr, 3, none⟩ (.int .i64 n3)).setCell ⟨qr, 4, none⟩ (.int .i64 n4) = vf at *
  clear c0 c1 c2 c3 c4 g0 g1 g2 g3 g4
  obtain ⟨c0, c1, c2, c3, c4⟩ := SF.out.cl.five
  refine bodyPost_ret (v := .tuple #[.agg #[.int .i64 n0, .int .i64 n1, .int .i64 n2, .int .i64 n3, .int .i64 n4], .int .i64 er]) ?_ rfl ⟨rfl, SF.out.drop.up1.drop⟩
  · rw [results_cell_tmp rfl]
    go_simp

theorem load_f {B : Nat} {w0 w : World} {f b : Nat} {d : Dk} {l : List Res} (T : Tabs B w0) (h : Sep B w0 w (File f b d :: l)) : Calls Tryd.prog 19 #[ptr f] w fun e w' => e = .returned (.tuple #[rtV d.load.1.1, .int .i64 d.load.1.2]) ∧ Sep B w0 w' (File f b d.load.2 :: l) := by
  unfold Dk.load
  by_cases h0 : (d.slot 0).1.2 = 0
  · rw [if_pos h0]
    by_cases h1 : ((d.slot 0).2.slot 1).1.2 = 0
    · rw [if_pos h1]; exact load_ok T h h0 h1
    · rw [if_neg h1]; exact load_e1 T h h0 h1
  · rw [if_neg h0]; exact load_e0 T h h0

end Go.Proofs.YtalljfckjkbieaaDoor

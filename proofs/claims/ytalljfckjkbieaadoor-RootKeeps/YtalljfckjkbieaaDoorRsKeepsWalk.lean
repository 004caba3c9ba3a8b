/-
  The walk of the law RootKeeps: a root that was stored is loaded, or the one that was being stored when the power went.
-/
import Derived.Test.YtalljfckjkbieaaDoorRsKeep
namespace Go.Proofs.YtalljfckjkbieaaDoor
open Go.RowKit
set_option linter.unusedVariables false

section
variable {B : Nat} {w0 w : World} {f b i : Nat} {d d2 : Dk} {l : List Res} {r r2 : Rt}
theorem St.room (H : St d i r) : d.pend.length < 99999 := by rw [H.pe]; decide
theorem store_st (T : Tabs B w0) (h : Sep B w0 w (File f b d :: l)) (H : St d i r) (hr : r2.ok = true) (he : r2.ep = (i : Int) + 1) : Calls Tryd.prog 18 #[ptr f, rtV r2] w fun e w' => e = .returned (.int .i64 0) ∧ Sep B w0 w' (File f b (d.store r2).2 :: l) := by
  have := store_f T h r2 H.room
  rw [(H.store h.fok hr he).1] at this
  exact this
theorem load_st (T : Tabs B w0) (h : Sep B w0 w (File f b d :: l)) (H : St d i r) (hi : 1 ≤ i) : Calls Tryd.prog 19 #[ptr f] w fun e w' => e = .returned (.tuple #[rtV r, .int .i64 0]) ∧ Sep B w0 w' (File f b d.load.2 :: l) := by
  have := load_f T h
  rw [(H.load hi).1] at this
  exact this
theorem store_dn (T : Tabs B w0) (h : Sep B w0 w (File f b (d.stop 0) :: l)) (H : St d i r) (hr : r2.ok = true) (he : r2.ep = (i : Int) + 1) : Calls Tryd.prog 18 #[ptr f, rtV r2] w fun e w' => e = .returned (.int .i64 4) ∧ Sep B w0 w' (File f b ((d.stop 0).store r2).2 :: l) := by
  have := store_f T h r2 (by show d.pend.length < 99999; exact H.room)
  rw [(H.down hr he).1] at this
  exact this
theorem load_dn (T : Tabs B w0) (h : Sep B w0 w (File f b d :: l)) (H : d.down = true) : Calls Tryd.prog 19 #[ptr f] w fun e w' => e = .returned (.tuple #[rtV rt0, .int .i64 4]) ∧ Sep B w0 w' (File f b d :: l) := by
  have := load_f T h
  rw [load_down H] at this
  exact this
theorem load_to (T : Tabs B w0) (h : Sep B w0 w (File f b d :: l)) (H : d.load.1 = (r, 0)) : Calls Tryd.prog 19 #[ptr f] w fun e w' => e = .returned (.tuple #[rtV r, .int .i64 0]) ∧ Sep B w0 w' (File f b d.load.2 :: l) := by
  have := load_f T h
  rw [H] at this
  exact this
theorem one_row (w : World) : IntRow (w.alloc (.cells #[.int .i64 0] 3)) (.slice (some ⟨w.heap.size, 0, none⟩) 1 1) [0] :=
  ⟨_, 1, rfl, fun _ => ⟨w.heap.size, 0, rfl, by simp, fun j hj => by
    obtain rfl : j = 0 := by simpa using hj
    exact (Cl.new w #[.int .i64 0] 3).cell 0⟩⟩
end

set_option maxRecDepth 100000 in
set_option maxHeartbeats 4000000 in
theorem keeps_many (v : Value) (l : List Rt) (last : Rt) (kept : Bool) (cut : Int) (w : World) (T : Tab w) (h : RootRow w v l) (hm : 40 < l.length) : Calls Tryd.prog 6 #[v, rtV last, .bool kept, .int .i64 cut] w fun e w' => e = .returned (.bool true) ∧ Below w.heap.size w w' := by
  have CW : Hid (∀ u, Tab u → Calls Tryd.prog 9 #[] u fun e w' => e = .returned (.bool true) ∧ Below u.heap.size u w') := works_any
  have TS : Hid (Tabs w.heap.size w) := tabs_of T
  obtain ⟨ao, cap, rfl, hrow⟩ := id h
  have HA : Hid (RootRow w (.slice ao l.length cap) l) := h
  clear h hrow T
  obtain ⟨n0, n1, n2, n3, n4⟩ := last
  have hz : (40 : Int) < (l.length : Int) := by omega
  unfold rtV
  dsimp only
  have S0 : Hid (Sep w.heap.size w (w.alloc (.cells #[.int .i64 n0, .int .i64 n1, .int .i64 n2, .int .i64 n3, .int .i64 n4] 23)) [Blk w.heap.size (.cells #[.int .i64 n0, .int .i64 n1, .int .i64 n2, .int .i64 n3, .int .i64 n4] 23)]) := (Sep.nil (Nat.le_refl _) (Below.refl _ _)).addBlk _
  go_enter Tryd.func6, Tryd.ntmps6
  go_wp2_with fail
  generalize w.alloc (.cells #[.int .i64 n0, .int .i64 n1, .int .i64 n2, .int .i64 n3, .int .i64 n4] 23) = v0 at *
  refine Calls.mono (CW.out _ (TS.out _ S0.out.bel)) ?_
  rintro e v1 ⟨rfl, b1⟩
  have B1 : Hid (Below w.heap.size w v1) := (S0.out.below b1).bel
  clear b1 S0 CW
  go_wp2
  go_ret
  exact ⟨rfl, B1.out⟩

set_option maxRecDepth 100000 in
set_option maxHeartbeats 4000000 in
theorem keeps_none (v : Value) (l : List Rt) (last : Rt) (kept : Bool) (cut : Int) (w : World) (T : Tab w) (h : RootRow w v l) (hm : l.length = 0) : Calls Tryd.prog 6 #[v, rtV last, .bool kept, .int .i64 cut] w fun e w' => e = .returned (.bool true) ∧ Below w.heap.size w w' := by
  have CW : Hid (∀ u, Tab u → Calls Tryd.prog 9 #[] u fun e w' => e = .returned (.bool true) ∧ Below u.heap.size u w') := works_any
  have TS : Hid (Tabs w.heap.size w) := tabs_of T
  obtain ⟨ao, cap, rfl, hrow⟩ := id h
  have HA : Hid (RootRow w (.slice ao l.length cap) l) := h
  clear h hrow T
  obtain ⟨n0, n1, n2, n3, n4⟩ := last
  have hz : ((l.length : Int) == 0) = true := by rw [hm]; rfl
  have hz2 : ¬ (40 : Int) < (l.length : Int) := by omega
  generalize l.length = N at *
  clear hm
  unfold rtV
  dsimp only
  have S0 : Hid (Sep w.heap.size w (w.alloc (.cells #[.int .i64 n0, .int .i64 n1, .int .i64 n2, .int .i64 n3, .int .i64 n4] 23)) [Blk w.heap.size (.cells #[.int .i64 n0, .int .i64 n1, .int .i64 n2, .int .i64 n3, .int .i64 n4] 23)]) := (Sep.nil (Nat.le_refl _) (Below.refl _ _)).addBlk _
  go_enter Tryd.func6, Tryd.ntmps6
  go_wp2_with fail
  generalize w.alloc (.cells #[.int .i64 n0, .int .i64 n1, .int .i64 n2, .int .i64 n3, .int .i64 n4] 23) = v0 at *
  refine Calls.mono (CW.out _ (TS.out _ S0.out.bel)) ?_
  rintro e v1 ⟨rfl, b1⟩
  have B1 : Hid (Below w.heap.size w v1) := (S0.out.below b1).bel
  clear b1 S0 CW
  go_wp2
  go_ret
  exact ⟨rfl, B1.out⟩

set_option maxRecDepth 100000 in
set_option maxHeartbeats 4000000 in
theorem keeps_in (v : Value) (l : List Rt) (last : Rt) (kept : Bool) (cut : Int) (w : World) (T : Tab w) (h : RootRow w v l) (hm : ¬ 40 < l.length) (hp : l.length ≠ 0) : Calls Tryd.prog 6 #[v, rtV last, .bool kept, .int .i64 cut] w fun e w' => e = .returned (.bool true) ∧ Below w.heap.size w w' := by
  have CW : Hid (∀ u, Tab u → Calls Tryd.prog 9 #[] u fun e w' => e = .returned (.bool true) ∧ Below u.heap.size u w') := works_any
  have TS : Hid (Tabs w.heap.size w) := tabs_of T
  obtain ⟨ao, cap, rfl, hrow⟩ := id h
  have HA : Hid (RootRow w (.slice ao l.length cap) l) := h
  clear h hrow T
  obtain ⟨n0, n1, n2, n3, n4⟩ := last
  have hz : ¬ (40 : Int) < (l.length : Int) := by omega
  have hz2 : ((l.length : Int) == 0) = false := beq_eq_false_iff_ne.2 (by omega)
  unfold rtV
  dsimp only
  have S0 : Hid (Sep w.heap.size w (w.alloc (.cells #[.int .i64 n0, .int .i64 n1, .int .i64 n2, .int .i64 n3, .int .i64 n4] 23)) [Blk w.heap.size (.cells #[.int .i64 n0, .int .i64 n1, .int .i64 n2, .int .i64 n3, .int .i64 n4] 23)]) := (Sep.nil (Nat.le_refl _) (Below.refl _ _)).addBlk _
  go_enter Tryd.func6, Tryd.ntmps6
  go_wp2_with fail
  generalize w.alloc (.cells #[.int .i64 n0, .int .i64 n1, .int .i64 n2, .int .i64 n3, .int .i64 n4] 23) = v0 at *
  refine Calls.mono (CW.out _ (TS.out _ S0.out.bel)) ?_
  rintro e v1 ⟨rfl, b1⟩
  have C1 : Hid _ := new_s 3 (S0.out.below b1)
  clear b1 S0 CW
  go_wp2_with fail
  refine Calls.mono C1.out ?_
  rintro e v2 ⟨b, rfl, s2⟩
  have C2 : Hid _ := new_f s2
  clear s2 C1
  go_wp2_with fail
  refine Calls.mono C2.out ?_
  rintro e v3 ⟨f, rfl, s3⟩
  have S3 : Hid (Sep w.heap.size w (v3.alloc (.cells #[.int .i64 0, .int .i64 0, .int .i64 0, .int .i64 0, .int .i64 0] 23)) [File f b (Dk.new 3), Blk v3.heap.size (.cells #[.int .i64 0, .int .i64 0, .int .i64 0, .int .i64 0, .int .i64 0] 23), Blk w.heap.size (.cells #[.int .i64 n0, .int .i64 n1, .int .i64 n2, .int .i64 n3, .int .i64 n4] 23)]) := (s3.addBlk _).up1
  clear s3 C2
  have K0 : Hid (St (Dk.new 3) 0 rt0) := St.new
  generalize Dk.new 3 = d0 at *
  go_wp2_with fail
  generalize v3.alloc (.cells #[.int .i64 0, .int .i64 0, .int .i64 0, .int .i64 0, .int .i64 0] 23) = v4 at *
  generalize v3.heap.size = qw at *
  go_loopg [13] l.length (fun gk s13 wr => ∃ (t : Nat) (d : Dk) (r : Rt), s13 = .int .i64 t ∧ t ≤ l.length ∧ l.length - t ≤ gk ∧ Hid (St d t r) ∧ Aside (Sep w.heap.size w wr [File f b d, Blk qw (.cells #[.int .i64 r.ep, .int .i64 r.pg, .int .i64 r.ct, .int .i64 r.fr, .int .i64 r.nx] 23), Blk w.heap.size (.cells #[.int .i64 n0, .int .i64 n1, .int .i64 n2, .int .i64 n3, .int .i64 n4] 23)]))
  case atStart => exact ⟨0, d0, rt0, rfl, Nat.zero_le _, Nat.le_refl _, K0, S3.out⟩
  case round =>
    clear S3 K0
    obtain ⟨t, d, r, rfl, ht, hgt, HI, S⟩ := hrel
    by_cases htl : t < l.length
    · as_aux_lemma =>
        have htz : (t : Int) < (l.length : Int) := by omega
        obtain ⟨rb, ro, rfl, hrb, x0, x1, x2, x3, x4⟩ := HA.out.at S.out.bel (Nat.le_refl _) htl
        generalize l.getD t rt0 = A at *
        obtain ⟨a0, a1, a2, a3, a4⟩ := A
        dsimp only at x0 x1 x2 x3 x4
        have S1 : Hid (Sep w.heap.size w (wr.alloc (.cells #[.int .i64 ((t : Int) + 1), .int .i64 a1, .int .i64 a2, .int .i64 a3, .int .i64 a4] 23)) [File f b d, Blk wr.heap.size (.cells #[.int .i64 ((t : Int) + 1), .int .i64 a1, .int .i64 a2, .int .i64 a3, .int .i64 a4] 23), Blk qw (.cells #[.int .i64 r.ep, .int .i64 r.pg, .int .i64 r.ct, .int .i64 r.fr, .int .i64 r.nx] 23), Blk w.heap.size (.cells #[.int .i64 n0, .int .i64 n1, .int .i64 n2, .int .i64 n3, .int .i64 n4] 23)]) := (S.out.addBlk _).up1
        have ht64 : (t : Int) ≤ 40 := by omega
        go_upto_region 14 with fail
        generalize wr.alloc (.cells #[.int .i64 ((t : Int) + 1), .int .i64 a1, .int .i64 a2, .int .i64 a3, .int .i64 a4] 23) = z1 at *
        clear x0 x1 x2 x3 x4 hrb
        generalize wr.heap.size = qr at *
        clear S
        cases hr2 : Rt.ok (⟨((t : Int) + 1), a1, a2, a3, a4⟩ : Rt) with
        | false =>
          have C1 : Hid (Calls Tryd.prog 18 #[ptr f, .agg #[.int .i64 ((t : Int) + 1), .int .i64 a1, .int .i64 a2, .int .i64 a3, .int .i64 a4]] z1 fun e w' => e = .returned (.int .i64 1) ∧ Sep w.heap.size w w' [File f b d, Blk qr (.cells #[.int .i64 ((t : Int) + 1), .int .i64 a1, .int .i64 a2, .int .i64 a3, .int .i64 a4] 23), Blk qw (.cells #[.int .i64 r.ep, .int .i64 r.pg, .int .i64 r.ct, .int .i64 r.fr, .int .i64 r.nx] 23), Blk w.heap.size (.cells #[.int .i64 n0, .int .i64 n1, .int .i64 n2, .int .i64 n3, .int .i64 n4] 23)]) := store_arg TS.out S1.out (⟨((t : Int) + 1), a1, a2, a3, a4⟩ : Rt) hr2
          have C2 : Hid (∀ u, Tab u → Calls Tryd.prog 10 #[.agg #[.int .i64 ((t : Int) + 1), .int .i64 a1, .int .i64 a2, .int .i64 a3, .int .i64 a4]] u fun e w' => e = .returned (.tuple #[.string ⟨#[]⟩, .int .i64 1]) ∧ Below u.heap.size u w') := fun u hu => enc_not (r := (⟨((t : Int) + 1), a1, a2, a3, a4⟩ : Rt)) hr2 u hu
          clear hr2
          obtain ⟨c0, c1, c2, c3, c4⟩ := S1.out.up1.cl.five
          go_wp2_with fail
          clear c0 c1 c2 c3 c4
          refine Calls.mono C1.out ?_
          rintro e z2 ⟨rfl, s2⟩
          have S2 : Hid (Sep w.heap.size w z2 [File f b d, Blk qr (.cells #[.int .i64 ((t : Int) + 1), .int .i64 a1, .int .i64 a2, .int .i64 a3, .int .i64 a4] 23), Blk qw (.cells #[.int .i64 r.ep, .int .i64 r.pg, .int .i64 r.ct, .int .i64 r.fr, .int .i64 r.nx] 23), Blk w.heap.size (.cells #[.int .i64 n0, .int .i64 n1, .int .i64 n2, .int .i64 n3, .int .i64 n4] 23)]) := s2
          clear s2 S1 C1
          obtain ⟨c0, c1, c2, c3, c4⟩ := S2.out.up1.cl.five
          go_wp2_with fail
          clear c0 c1 c2 c3 c4
          refine Calls.mono (C2.out _ (TS.out _ S2.out.bel)) ?_
          rintro e z3 ⟨rfl, b3⟩
          have B3 : Hid (Below w.heap.size w z3) := (S2.out.below b3).bel
          clear b3 S2 C2
          go_wp2
          go_ret
          exact ⟨rfl, B3.out⟩
        | true =>
          have C1 : Hid (Calls Tryd.prog 18 #[ptr f, .agg #[.int .i64 ((t : Int) + 1), .int .i64 a1, .int .i64 a2, .int .i64 a3, .int .i64 a4]] z1 fun e w' => e = .returned (.int .i64 0) ∧ Sep w.heap.size w w' [File f b (d.store (⟨((t : Int) + 1), a1, a2, a3, a4⟩ : Rt)).2, Blk qr (.cells #[.int .i64 ((t : Int) + 1), .int .i64 a1, .int .i64 a2, .int .i64 a3, .int .i64 a4] 23), Blk qw (.cells #[.int .i64 r.ep, .int .i64 r.pg, .int .i64 r.ct, .int .i64 r.fr, .int .i64 r.nx] 23), Blk w.heap.size (.cells #[.int .i64 n0, .int .i64 n1, .int .i64 n2, .int .i64 n3, .int .i64 n4] 23)]) := store_st TS.out S1.out HI.out (r2 := (⟨((t : Int) + 1), a1, a2, a3, a4⟩ : Rt)) hr2 rfl
          have HI2 : Hid (St (d.store (⟨((t : Int) + 1), a1, a2, a3, a4⟩ : Rt)).2 (t + 1) (⟨((t : Int) + 1), a1, a2, a3, a4⟩ : Rt)) := (HI.out.store S1.out.fok hr2 rfl).2.1
          generalize (d.store (⟨((t : Int) + 1), a1, a2, a3, a4⟩ : Rt)).2 = d1 at C1 HI2
          have C2 : Hid (∀ u, Tab u → Calls Tryd.prog 10 #[.agg #[.int .i64 ((t : Int) + 1), .int .i64 a1, .int .i64 a2, .int .i64 a3, .int .i64 a4]] u fun e w' => e = .returned (.tuple #[.string ⟨(slotL (⟨((t : Int) + 1), a1, a2, a3, a4⟩ : Rt)).toArray⟩, .int .i64 0]) ∧ Below u.heap.size u w') := fun u hu => enc_yes (r := (⟨((t : Int) + 1), a1, a2, a3, a4⟩ : Rt)) hr2 u hu
          generalize (⟨(slotL (⟨((t : Int) + 1), a1, a2, a3, a4⟩ : Rt)).toArray⟩ : ByteArray) = sx at C2
          clear hr2 HI
          obtain ⟨c0, c1, c2, c3, c4⟩ := S1.out.up1.cl.five
          go_wp2_with fail
          clear c0 c1 c2 c3 c4
          refine Calls.mono C1.out ?_
          rintro e z2 ⟨rfl, s2⟩
          have S2 : Hid (Sep w.heap.size w z2 [File f b d1, Blk qr (.cells #[.int .i64 ((t : Int) + 1), .int .i64 a1, .int .i64 a2, .int .i64 a3, .int .i64 a4] 23), Blk qw (.cells #[.int .i64 r.ep, .int .i64 r.pg, .int .i64 r.ct, .int .i64 r.fr, .int .i64 r.nx] 23), Blk w.heap.size (.cells #[.int .i64 n0, .int .i64 n1, .int .i64 n2, .int .i64 n3, .int .i64 n4] 23)]) := s2
          clear s2 S1 C1
          obtain ⟨c0, c1, c2, c3, c4⟩ := S2.out.up1.cl.five
          go_wp2_with fail
          clear c0 c1 c2 c3 c4
          refine Calls.mono (C2.out _ (TS.out _ S2.out.bel)) ?_
          rintro e z3 ⟨rfl, b3⟩
          have S3 : Hid (Sep w.heap.size w z3 [File f b d1, Blk qr (.cells #[.int .i64 ((t : Int) + 1), .int .i64 a1, .int .i64 a2, .int .i64 a3, .int .i64 a4] 23), Blk qw (.cells #[.int .i64 r.ep, .int .i64 r.pg, .int .i64 r.ct, .int .i64 r.fr, .int .i64 r.nx] 23), Blk w.heap.size (.cells #[.int .i64 n0, .int .i64 n1, .int .i64 n2, .int .i64 n3, .int .i64 n4] 23)]) := S2.out.below b3
          clear b3 S2 C2
          have C3 : Hid (Calls Tryd.prog 19 #[ptr f] z3 fun e w' => e = .returned (.tuple #[.agg #[.int .i64 ((t : Int) + 1), .int .i64 a1, .int .i64 a2, .int .i64 a3, .int .i64 a4], .int .i64 0]) ∧ Sep w.heap.size w w' [File f b d1.load.2, Blk qr (.cells #[.int .i64 ((t : Int) + 1), .int .i64 a1, .int .i64 a2, .int .i64 a3, .int .i64 a4] 23), Blk qw (.cells #[.int .i64 r.ep, .int .i64 r.pg, .int .i64 r.ct, .int .i64 r.fr, .int .i64 r.nx] 23), Blk w.heap.size (.cells #[.int .i64 n0, .int .i64 n1, .int .i64 n2, .int .i64 n3, .int .i64 n4] 23)]) := load_st TS.out S3.out HI2.out (by omega)
          have HI3 : Hid (St d1.load.2 (t + 1) (⟨((t : Int) + 1), a1, a2, a3, a4⟩ : Rt)) := (HI2.out.load (by omega)).2.1
          generalize d1.load.2 = d2 at C3 HI3
          clear HI2
          go_wp2_with fail
          refine Calls.mono C3.out ?_
          rintro e z4 ⟨rfl, s4⟩
          have S4 : Hid (Sep w.heap.size w (z4.alloc (.cells #[.int .i64 ((t : Int) + 1), .int .i64 a1, .int .i64 a2, .int .i64 a3, .int .i64 a4] 23)) [Blk z4.heap.size (.cells #[.int .i64 ((t : Int) + 1), .int .i64 a1, .int .i64 a2, .int .i64 a3, .int .i64 a4] 23), File f b d2, Blk qr (.cells #[.int .i64 ((t : Int) + 1), .int .i64 a1, .int .i64 a2, .int .i64 a3, .int .i64 a4] 23), Blk qw (.cells #[.int .i64 r.ep, .int .i64 r.pg, .int .i64 r.ct, .int .i64 r.fr, .int .i64 r.nx] 23), Blk w.heap.size (.cells #[.int .i64 n0, .int .i64 n1, .int .i64 n2, .int .i64 n3, .int .i64 n4] 23)]) := s4.addBlk _
          clear s4 S3 C3
          go_upto_region 19 with fail
          generalize z4.alloc (.cells #[.int .i64 ((t : Int) + 1), .int .i64 a1, .int .i64 a2, .int .i64 a3, .int .i64 a4] 23) = z5 at *
          generalize z4.heap.size = qx at *
          obtain ⟨c0, c1, c2, c3, c4⟩ := S4.out.cl.five
          obtain ⟨e0, e1, e2, e3, e4⟩ := S4.out.up2.cl.five
          obtain ⟨f0, f1, f2, f3, f4⟩ := S4.out.up3.cl.five
          have g0 := S4.out.up3.cl.frozen 0
          have g1 := S4.out.up3.cl.frozen 1
          have g2 := S4.out.up3.cl.frozen 2
          have g3 := S4.out.up3.cl.frozen 3
          have g4 := S4.out.up3.cl.frozen 4
          have SF : Hid (Sep w.heap.size w (((((z5.setCell ⟨qw, 0, none⟩ (.int .i64 ((t : Int) + 1))).setCell ⟨qw, 1, none⟩ (.int .i64 a1)).setCell ⟨qw, 2, none⟩ (.int .i64 a2)).setCell ⟨qw, 3, none⟩ (.int .i64 a3)).setCell ⟨qw, 4, none⟩ (.int .i64 a4)) [File f b d2, Blk qw (.cells #[.int .i64 ((t : Int) + 1), .int .i64 a1, .int .i64 a2, .int .i64 a3, .int .i64 a4] 23), Blk w.heap.size (.cells #[.int .i64 n0, .int .i64 n1, .int .i64 n2, .int .i64 n3, .int .i64 n4] 23)]) := (((Sep.blkSet5 S4.out.up3 _ _ _ _ _).up1.drop).up2.drop).up1
          clear S4
          go_wp2
          go_roundg (l.length - (t + 1))
          case measure => omega
          case rel => exact ⟨t + 1, d2, (⟨((t : Int) + 1), a1, a2, a3, a4⟩ : Rt), by go_num, by omega, Nat.le_refl _, HI3, SF.out⟩
    · have htq : t = l.length := by omega
      obtain rfl := htq
      have htz : ¬ (l.length : Int) < (l.length : Int) := by omega
      have l64 : (l.length : Int) ≤ 40 := by omega
      obtain ⟨c0, c1, c2, c3, c4⟩ := S.out.up2.cl.five
      have g0 := S.out.up2.cl.frozen 0
      have S1 : Hid (Sep w.heap.size w (wr.setCell ⟨w.heap.size, 0, none⟩ (.int .i64 ((l.length : Int) + 1))) [File f b d, Blk w.heap.size (.cells #[.int .i64 ((l.length : Int) + 1), .int .i64 n1, .int .i64 n2, .int .i64 n3, .int .i64 n4] 23), Blk qw (.cells #[.int .i64 r.ep, .int .i64 r.pg, .int .i64 r.ct, .int .i64 r.fr, .int .i64 r.nx] 23)]) := (Sep.blkSet S.out.up2 0 _).up1
      go_upto_region 23 with fail
      generalize wr.setCell ⟨w.heap.size, 0, none⟩ (.int .i64 ((l.length : Int) + 1)) = z1 at *
      clear c0 c1 c2 c3 c4 g0 S
      cases hr2 : Rt.ok (⟨((l.length : Int) + 1), n1, n2, n3, n4⟩ : Rt) with
      | false =>
        have C2 : Hid (∀ u, Tab u → Calls Tryd.prog 10 #[.agg #[.int .i64 ((l.length : Int) + 1), .int .i64 n1, .int .i64 n2, .int .i64 n3, .int .i64 n4]] u fun e w' => e = .returned (.tuple #[.string ⟨#[]⟩, .int .i64 1]) ∧ Below u.heap.size u w') := fun u hu => enc_not (r := (⟨((l.length : Int) + 1), n1, n2, n3, n4⟩ : Rt)) hr2 u hu
        obtain ⟨c0, c1, c2, c3, c4⟩ := S1.out.up1.cl.five
        go_wp2_with fail
        clear c0 c1 c2 c3 c4
        refine Calls.mono (C2.out _ (TS.out _ S1.out.bel)) ?_
        rintro e z3 ⟨rfl, b3⟩
        have B3 : Hid (Below w.heap.size w z3) := (S1.out.below b3).bel
        clear b3 S1 C2
        go_wp2
        go_ret
        exact ⟨rfl, B3.out⟩
      | true =>
        have C2 : Hid (∀ u, Tab u → Calls Tryd.prog 10 #[.agg #[.int .i64 ((l.length : Int) + 1), .int .i64 n1, .int .i64 n2, .int .i64 n3, .int .i64 n4]] u fun e w' => e = .returned (.tuple #[.string ⟨(slotL (⟨((l.length : Int) + 1), n1, n2, n3, n4⟩ : Rt)).toArray⟩, .int .i64 0]) ∧ Below u.heap.size u w') := fun u hu => enc_yes (r := (⟨((l.length : Int) + 1), n1, n2, n3, n4⟩ : Rt)) hr2 u hu
        generalize (⟨(slotL (⟨((l.length : Int) + 1), n1, n2, n3, n4⟩ : Rt)).toArray⟩ : ByteArray) = sx at C2
        obtain ⟨c0, c1, c2, c3, c4⟩ := S1.out.up1.cl.five
        go_wp2_with fail
        clear c0 c1 c2 c3 c4
        refine Calls.mono (C2.out _ (TS.out _ S1.out.bel)) ?_
        rintro e z2 ⟨rfl, b2⟩
        have S2 : Hid (Sep w.heap.size w z2 [File f b d, Blk w.heap.size (.cells #[.int .i64 ((l.length : Int) + 1), .int .i64 n1, .int .i64 n2, .int .i64 n3, .int .i64 n4] 23), Blk qw (.cells #[.int .i64 r.ep, .int .i64 r.pg, .int .i64 r.ct, .int .i64 r.fr, .int .i64 r.nx] 23)]) := S1.out.below b2
        clear b2 S1 C2
        have C3 : Hid _ := break_f S2.out 0 (by decide)
        go_wp2_with fail
        refine Calls.mono C3.out ?_
        rintro e z3 ⟨rfl, s3⟩
        have S3 : Hid (Sep w.heap.size w z3 [File f b (d.stop 0), Blk w.heap.size (.cells #[.int .i64 ((l.length : Int) + 1), .int .i64 n1, .int .i64 n2, .int .i64 n3, .int .i64 n4] 23), Blk qw (.cells #[.int .i64 r.ep, .int .i64 r.pg, .int .i64 r.ct, .int .i64 r.fr, .int .i64 r.nx] 23)]) := s3
        clear s3 S2 C3
        have C4 : Hid (Calls Tryd.prog 18 #[ptr f, .agg #[.int .i64 ((l.length : Int) + 1), .int .i64 n1, .int .i64 n2, .int .i64 n3, .int .i64 n4]] z3 fun e w' => e = .returned (.int .i64 4) ∧ Sep w.heap.size w w' [File f b ((d.stop 0).store (⟨((l.length : Int) + 1), n1, n2, n3, n4⟩ : Rt)).2, Blk w.heap.size (.cells #[.int .i64 ((l.length : Int) + 1), .int .i64 n1, .int .i64 n2, .int .i64 n3, .int .i64 n4] 23), Blk qw (.cells #[.int .i64 r.ep, .int .i64 r.pg, .int .i64 r.ct, .int .i64 r.fr, .int .i64 r.nx] 23)]) := store_dn TS.out S3.out HI.out (r2 := (⟨((l.length : Int) + 1), n1, n2, n3, n4⟩ : Rt)) hr2 rfl
        have HD : Hid _ := (HI.out.down (r2 := (⟨((l.length : Int) + 1), n1, n2, n3, n4⟩ : Rt)) hr2 rfl).2
        generalize ((d.stop 0).store (⟨((l.length : Int) + 1), n1, n2, n3, n4⟩ : Rt)).2 = d2 at C4 HD
        obtain ⟨c0, c1, c2, c3, c4⟩ := S3.out.up1.cl.five
        go_wp2_with fail
        clear c0 c1 c2 c3 c4
        refine Calls.mono C4.out ?_
        rintro e z4 ⟨rfl, s4⟩
        have S4 : Hid (Sep w.heap.size w z4 [File f b d2, Blk w.heap.size (.cells #[.int .i64 ((l.length : Int) + 1), .int .i64 n1, .int .i64 n2, .int .i64 n3, .int .i64 n4] 23), Blk qw (.cells #[.int .i64 r.ep, .int .i64 r.pg, .int .i64 r.ct, .int .i64 r.fr, .int .i64 r.nx] 23)]) := s4
        clear s4 S3 C4
        have C5 : Hid (Calls Tryd.prog 19 #[ptr f] z4 fun e w' => e = .returned (.tuple #[.agg #[.int .i64 0, .int .i64 0, .int .i64 0, .int .i64 0, .int .i64 0], .int .i64 4]) ∧ Sep w.heap.size w w' [File f b d2, Blk w.heap.size (.cells #[.int .i64 ((l.length : Int) + 1), .int .i64 n1, .int .i64 n2, .int .i64 n3, .int .i64 n4] 23), Blk qw (.cells #[.int .i64 r.ep, .int .i64 r.pg, .int .i64 r.ct, .int .i64 r.fr, .int .i64 r.nx] 23)]) := load_dn TS.out S4.out HD.out.1
        go_wp2_with fail
        refine Calls.mono C5.out ?_
        rintro e z5 ⟨rfl, s5⟩
        have S5 : Hid (Sep w.heap.size w (z5.alloc (.cells #[.int .i64 0, .int .i64 0, .int .i64 0, .int .i64 0, .int .i64 0] 23)) [File f b d2, Blk w.heap.size (.cells #[.int .i64 ((l.length : Int) + 1), .int .i64 n1, .int .i64 n2, .int .i64 n3, .int .i64 n4] 23), Blk qw (.cells #[.int .i64 r.ep, .int .i64 r.pg, .int .i64 r.ct, .int .i64 r.fr, .int .i64 r.nx] 23)]) := s5.alloc _
        clear s5 S4 C5
        go_upto_region 30 with fail
        generalize z5.alloc (.cells #[.int .i64 0, .int .i64 0, .int .i64 0, .int .i64 0, .int .i64 0] 23) = z6 at *
        have hpl : Hid (d2.pend.length < 100000) := by show d2.pend.length < 100000; rw [HD.out.2.2]; show 1 < 100000; decide
        have HC : Hid _ := HI.out.crash (by omega) hr2 rfl HD.out.2.1 HD.out.2.2
        have hep : r.ep = l.length := by
          rcases HI.out.cur with ⟨h0, _⟩ | ⟨_, h1, _⟩
          · omega
          · exact h1
        have hne : (((l.length : Int) + 1) == r.ep) = false := beq_eq_false_iff_ne.2 (by omega)
        clear hep HI HD hr2
        cases kept with
        | false =>
          as_aux_lemma =>
            have HL : Hid ((d2.crash [] 0 cut).load.1 = (r, 0)) := (HC.out [] cut).1 rfl
            clear HC
            have C7 : Hid _ := crash_f S5.out (.slice none 0 0) [] ⟨none, 0, rfl, fun h => absurd rfl h⟩ 0 cut hpl.out (by decide)
            clear S5
            generalize d2.crash [] 0 cut = d3 at C7 HL
            go_wp2_with fail
            refine Calls.mono C7.out ?_
            rintro e z8 ⟨rfl, s8⟩
            have S8 : Hid (Sep w.heap.size w z8 [File f b d3, Blk w.heap.size (.cells #[.int .i64 ((l.length : Int) + 1), .int .i64 n1, .int .i64 n2, .int .i64 n3, .int .i64 n4] 23), Blk qw (.cells #[.int .i64 r.ep, .int .i64 r.pg, .int .i64 r.ct, .int .i64 r.fr, .int .i64 r.nx] 23)]) := s8
            clear s8 C7
            have C8 : Hid (Calls Tryd.prog 19 #[ptr f] z8 fun e w' => e = .returned (.tuple #[.agg #[.int .i64 r.ep, .int .i64 r.pg, .int .i64 r.ct, .int .i64 r.fr, .int .i64 r.nx], .int .i64 0]) ∧ Sep w.heap.size w w' [File f b d3.load.2, Blk w.heap.size (.cells #[.int .i64 ((l.length : Int) + 1), .int .i64 n1, .int .i64 n2, .int .i64 n3, .int .i64 n4] 23), Blk qw (.cells #[.int .i64 r.ep, .int .i64 r.pg, .int .i64 r.ct, .int .i64 r.fr, .int .i64 r.nx] 23)]) := load_to TS.out S8.out HL.out
            generalize d3.load.2 = d4 at C8
            clear HL
            go_wp2_with fail
            refine Calls.mono C8.out ?_
            rintro e z9 ⟨rfl, s9⟩
            have S9 : Hid (Sep w.heap.size w (z9.alloc (.cells #[.int .i64 r.ep, .int .i64 r.pg, .int .i64 r.ct, .int .i64 r.fr, .int .i64 r.nx] 23)) [Blk z9.heap.size (.cells #[.int .i64 r.ep, .int .i64 r.pg, .int .i64 r.ct, .int .i64 r.fr, .int .i64 r.nx] 23), File f b d4, Blk w.heap.size (.cells #[.int .i64 ((l.length : Int) + 1), .int .i64 n1, .int .i64 n2, .int .i64 n3, .int .i64 n4] 23), Blk qw (.cells #[.int .i64 r.ep, .int .i64 r.pg, .int .i64 r.ct, .int .i64 r.fr, .int .i64 r.nx] 23)]) := s9.addBlk _
            clear s9 S8 C8
            go_upto_region 35 with fail
            generalize z9.alloc (.cells #[.int .i64 r.ep, .int .i64 r.pg, .int .i64 r.ct, .int .i64 r.fr, .int .i64 r.nx] 23) = z10 at *
            generalize z9.heap.size = qx at *
            obtain ⟨c0, c1, c2, c3, c4⟩ := S9.out.cl.five
            obtain ⟨e0, e1, e2, e3, e4⟩ := S9.out.up2.cl.five
            obtain ⟨f0, f1, f2, f3, f4⟩ := S9.out.up3.cl.five
            have B10 : Hid (Below w.heap.size w z10) := S9.out.bel
            clear S9
            go_wp2
            go_ret
            exact ⟨rfl, B10.out⟩
        | true =>
          rcases (HC.out [0] cut).2 rfl with ⟨hl0, hc⟩ | hl0
          · as_aux_lemma =>
              have HL : Hid ((d2.crash [0] 0 cut).load.1 = (r, 0)) := hl0
              have hcz : ¬ (256 : Int) ≤ cut := by omega
              clear HC hl0 hc
              have S6 : Hid (Sep w.heap.size w (z6.alloc (.cells #[.int .i64 0] 3)) [File f b d2, Blk w.heap.size (.cells #[.int .i64 ((l.length : Int) + 1), .int .i64 n1, .int .i64 n2, .int .i64 n3, .int .i64 n4] 23), Blk qw (.cells #[.int .i64 r.ep, .int .i64 r.pg, .int .i64 r.ct, .int .i64 r.fr, .int .i64 r.nx] 23)]) := S5.out.alloc _
              have RW := one_row z6
              go_upto_region 33 with fail
              generalize z6.alloc (.cells #[.int .i64 0] 3) = z7 at *
              generalize z6.heap.size = qk at *
              have C7 : Hid _ := crash_f S6.out (.slice (some ⟨qk, 0, none⟩) 1 1) [0] RW 0 cut hpl.out (by decide)
              clear RW S5 S6
              generalize d2.crash [0] 0 cut = d3 at C7 HL
              go_wp2_with fail
              refine Calls.mono C7.out ?_
              rintro e z8 ⟨rfl, s8⟩
              have S8 : Hid (Sep w.heap.size w z8 [File f b d3, Blk w.heap.size (.cells #[.int .i64 ((l.length : Int) + 1), .int .i64 n1, .int .i64 n2, .int .i64 n3, .int .i64 n4] 23), Blk qw (.cells #[.int .i64 r.ep, .int .i64 r.pg, .int .i64 r.ct, .int .i64 r.fr, .int .i64 r.nx] 23)]) := s8
              clear s8 C7
              have C8 : Hid (Calls Tryd.prog 19 #[ptr f] z8 fun e w' => e = .returned (.tuple #[.agg #[.int .i64 r.ep, .int .i64 r.pg, .int .i64 r.ct, .int .i64 r.fr, .int .i64 r.nx], .int .i64 0]) ∧ Sep w.heap.size w w' [File f b d3.load.2, Blk w.heap.size (.cells #[.int .i64 ((l.length : Int) + 1), .int .i64 n1, .int .i64 n2, .int .i64 n3, .int .i64 n4] 23), Blk qw (.cells #[.int .i64 r.ep, .int .i64 r.pg, .int .i64 r.ct, .int .i64 r.fr, .int .i64 r.nx] 23)]) := load_to TS.out S8.out HL.out
              generalize d3.load.2 = d4 at C8
              clear HL
              go_wp2_with fail
              refine Calls.mono C8.out ?_
              rintro e z9 ⟨rfl, s9⟩
              have S9 : Hid (Sep w.heap.size w (z9.alloc (.cells #[.int .i64 r.ep, .int .i64 r.pg, .int .i64 r.ct, .int .i64 r.fr, .int .i64 r.nx] 23)) [Blk z9.heap.size (.cells #[.int .i64 r.ep, .int .i64 r.pg, .int .i64 r.ct, .int .i64 r.fr, .int .i64 r.nx] 23), File f b d4, Blk w.heap.size (.cells #[.int .i64 ((l.length : Int) + 1), .int .i64 n1, .int .i64 n2, .int .i64 n3, .int .i64 n4] 23), Blk qw (.cells #[.int .i64 r.ep, .int .i64 r.pg, .int .i64 r.ct, .int .i64 r.fr, .int .i64 r.nx] 23)]) := s9.addBlk _
              clear s9 S8 C8
              go_upto_region 35 with fail
              generalize z9.alloc (.cells #[.int .i64 r.ep, .int .i64 r.pg, .int .i64 r.ct, .int .i64 r.fr, .int .i64 r.nx] 23) = z10 at *
              generalize z9.heap.size = qx at *
              obtain ⟨c0, c1, c2, c3, c4⟩ := S9.out.cl.five
              obtain ⟨e0, e1, e2, e3, e4⟩ := S9.out.up2.cl.five
              obtain ⟨f0, f1, f2, f3, f4⟩ := S9.out.up3.cl.five
              have B10 : Hid (Below w.heap.size w z10) := S9.out.bel
              clear S9
              go_wp2
              go_ret
              exact ⟨rfl, B10.out⟩
          · have HL : Hid ((d2.crash [0] 0 cut).load.1 = ((⟨((l.length : Int) + 1), n1, n2, n3, n4⟩ : Rt), 0)) := hl0
            clear HC hl0
            by_cases hcz : (256 : Int) ≤ cut
            · as_aux_lemma =>
                have S6 : Hid (Sep w.heap.size w (z6.alloc (.cells #[.int .i64 0] 3)) [File f b d2, Blk w.heap.size (.cells #[.int .i64 ((l.length : Int) + 1), .int .i64 n1, .int .i64 n2, .int .i64 n3, .int .i64 n4] 23), Blk qw (.cells #[.int .i64 r.ep, .int .i64 r.pg, .int .i64 r.ct, .int .i64 r.fr, .int .i64 r.nx] 23)]) := S5.out.alloc _
                have RW := one_row z6
                go_upto_region 33 with fail
                generalize z6.alloc (.cells #[.int .i64 0] 3) = z7 at *
                generalize z6.heap.size = qk at *
                have C7 : Hid _ := crash_f S6.out (.slice (some ⟨qk, 0, none⟩) 1 1) [0] RW 0 cut hpl.out (by decide)
                clear RW S5 S6
                generalize d2.crash [0] 0 cut = d3 at C7 HL
                go_wp2_with fail
                refine Calls.mono C7.out ?_
                rintro e z8 ⟨rfl, s8⟩
                have S8 : Hid (Sep w.heap.size w z8 [File f b d3, Blk w.heap.size (.cells #[.int .i64 ((l.length : Int) + 1), .int .i64 n1, .int .i64 n2, .int .i64 n3, .int .i64 n4] 23), Blk qw (.cells #[.int .i64 r.ep, .int .i64 r.pg, .int .i64 r.ct, .int .i64 r.fr, .int .i64 r.nx] 23)]) := s8
                clear s8 C7
                have C8 : Hid (Calls Tryd.prog 19 #[ptr f] z8 fun e w' => e = .returned (.tuple #[.agg #[.int .i64 ((l.length : Int) + 1), .int .i64 n1, .int .i64 n2, .int .i64 n3, .int .i64 n4], .int .i64 0]) ∧ Sep w.heap.size w w' [File f b d3.load.2, Blk w.heap.size (.cells #[.int .i64 ((l.length : Int) + 1), .int .i64 n1, .int .i64 n2, .int .i64 n3, .int .i64 n4] 23), Blk qw (.cells #[.int .i64 r.ep, .int .i64 r.pg, .int .i64 r.ct, .int .i64 r.fr, .int .i64 r.nx] 23)]) := load_to TS.out S8.out HL.out
                generalize d3.load.2 = d4 at C8
                clear HL
                go_wp2_with fail
                refine Calls.mono C8.out ?_
                rintro e z9 ⟨rfl, s9⟩
                have S9 : Hid (Sep w.heap.size w (z9.alloc (.cells #[.int .i64 ((l.length : Int) + 1), .int .i64 n1, .int .i64 n2, .int .i64 n3, .int .i64 n4] 23)) [Blk z9.heap.size (.cells #[.int .i64 ((l.length : Int) + 1), .int .i64 n1, .int .i64 n2, .int .i64 n3, .int .i64 n4] 23), File f b d4, Blk w.heap.size (.cells #[.int .i64 ((l.length : Int) + 1), .int .i64 n1, .int .i64 n2, .int .i64 n3, .int .i64 n4] 23), Blk qw (.cells #[.int .i64 r.ep, .int .i64 r.pg, .int .i64 r.ct, .int .i64 r.fr, .int .i64 r.nx] 23)]) := s9.addBlk _
                clear s9 S8 C8
                go_upto_region 35 with fail
                generalize z9.alloc (.cells #[.int .i64 ((l.length : Int) + 1), .int .i64 n1, .int .i64 n2, .int .i64 n3, .int .i64 n4] 23) = z10 at *
                generalize z9.heap.size = qx at *
                obtain ⟨c0, c1, c2, c3, c4⟩ := S9.out.cl.five
                obtain ⟨e0, e1, e2, e3, e4⟩ := S9.out.up2.cl.five
                obtain ⟨f0, f1, f2, f3, f4⟩ := S9.out.up3.cl.five
                have B10 : Hid (Below w.heap.size w z10) := S9.out.bel
                clear S9
                go_wp2
                go_ret
                exact ⟨rfl, B10.out⟩
            · as_aux_lemma =>
                have S6 : Hid (Sep w.heap.size w (z6.alloc (.cells #[.int .i64 0] 3)) [File f b d2, Blk w.heap.size (.cells #[.int .i64 ((l.length : Int) + 1), .int .i64 n1, .int .i64 n2, .int .i64 n3, .int .i64 n4] 23), Blk qw (.cells #[.int .i64 r.ep, .int .i64 r.pg, .int .i64 r.ct, .int .i64 r.fr, .int .i64 r.nx] 23)]) := S5.out.alloc _
                have RW := one_row z6
                go_upto_region 33 with fail
                generalize z6.alloc (.cells #[.int .i64 0] 3) = z7 at *
                generalize z6.heap.size = qk at *
                have C7 : Hid _ := crash_f S6.out (.slice (some ⟨qk, 0, none⟩) 1 1) [0] RW 0 cut hpl.out (by decide)
                clear RW S5 S6
                generalize d2.crash [0] 0 cut = d3 at C7 HL
                go_wp2_with fail
                refine Calls.mono C7.out ?_
                rintro e z8 ⟨rfl, s8⟩
                have S8 : Hid (Sep w.heap.size w z8 [File f b d3, Blk w.heap.size (.cells #[.int .i64 ((l.length : Int) + 1), .int .i64 n1, .int .i64 n2, .int .i64 n3, .int .i64 n4] 23), Blk qw (.cells #[.int .i64 r.ep, .int .i64 r.pg, .int .i64 r.ct, .int .i64 r.fr, .int .i64 r.nx] 23)]) := s8
                clear s8 C7
                have C8 : Hid (Calls Tryd.prog 19 #[ptr f] z8 fun e w' => e = .returned (.tuple #[.agg #[.int .i64 ((l.length : Int) + 1), .int .i64 n1, .int .i64 n2, .int .i64 n3, .int .i64 n4], .int .i64 0]) ∧ Sep w.heap.size w w' [File f b d3.load.2, Blk w.heap.size (.cells #[.int .i64 ((l.length : Int) + 1), .int .i64 n1, .int .i64 n2, .int .i64 n3, .int .i64 n4] 23), Blk qw (.cells #[.int .i64 r.ep, .int .i64 r.pg, .int .i64 r.ct, .int .i64 r.fr, .int .i64 r.nx] 23)]) := load_to TS.out S8.out HL.out
                generalize d3.load.2 = d4 at C8
                clear HL
                go_wp2_with fail
                refine Calls.mono C8.out ?_
                rintro e z9 ⟨rfl, s9⟩
                have S9 : Hid (Sep w.heap.size w (z9.alloc (.cells #[.int .i64 ((l.length : Int) + 1), .int .i64 n1, .int .i64 n2, .int .i64 n3, .int .i64 n4] 23)) [Blk z9.heap.size (.cells #[.int .i64 ((l.length : Int) + 1), .int .i64 n1, .int .i64 n2, .int .i64 n3, .int .i64 n4] 23), File f b d4, Blk w.heap.size (.cells #[.int .i64 ((l.length : Int) + 1), .int .i64 n1, .int .i64 n2, .int .i64 n3, .int .i64 n4] 23), Blk qw (.cells #[.int .i64 r.ep, .int .i64 r.pg, .int .i64 r.ct, .int .i64 r.fr, .int .i64 r.nx] 23)]) := s9.addBlk _
                clear s9 S8 C8
                go_upto_region 35 with fail
                generalize z9.alloc (.cells #[.int .i64 ((l.length : Int) + 1), .int .i64 n1, .int .i64 n2, .int .i64 n3, .int .i64 n4] 23) = z10 at *
                generalize z9.heap.size = qx at *
                obtain ⟨c0, c1, c2, c3, c4⟩ := S9.out.cl.five
                obtain ⟨e0, e1, e2, e3, e4⟩ := S9.out.up2.cl.five
                obtain ⟨f0, f1, f2, f3, f4⟩ := S9.out.up3.cl.five
                have B10 : Hid (Below w.heap.size w z10) := S9.out.bel
                clear S9
                go_wp2
                go_ret
                exact ⟨rfl, B10.out⟩

theorem keeps_walk (v : Value) (l : List Rt) (last : Rt) (kept : Bool) (cut : Int) (w : World) (T : Tab w) (h : RootRow w v l) (_ : last.wf) (_ : -9223372036854775808 ≤ cut ∧ cut ≤ 9223372036854775807) : Calls Tryd.prog 6 #[v, rtV last, .bool kept, .int .i64 cut] w fun e w' => e = .returned (.bool true) ∧ Below w.heap.size w w' := by
  by_cases hm : 40 < l.length
  · exact keeps_many v l last kept cut w T h hm
  · by_cases hp : l.length = 0
    · exact keeps_none v l last kept cut w T h hp
    · exact keeps_in v l last kept cut w T h hm hp

end Go.Proofs.YtalljfckjkbieaaDoor

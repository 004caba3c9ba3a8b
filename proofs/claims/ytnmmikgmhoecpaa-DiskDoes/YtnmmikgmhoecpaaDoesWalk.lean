/-
  The walk of the law DiskDoes.
-/
import Derived.Test.YtnmmikgmhoecpaaRefApi
import Derived.Deep.RegionHeld3
namespace Go.Proofs.Ytnmmikgmhoecpaa
open Go.RowKit
set_option linter.unusedVariables false

/-- A block that nobody writes. -/
def Blk (q : Nat) (o : Obj) : Res := fun w X => w.heap[q]? = some o ∧ ∀ k, X k ↔ k = q
theorem good_blk (q : Nat) (o : Obj) : Good (Blk q o) :=
  ⟨fun w w' X h hk _ => ⟨(hk q ((h.2 q).2 rfl)).trans h.1, h.2⟩, fun w X h k hk => by rw [(h.2 k).1 hk]; exact (Array.getElem?_eq_some_iff.1 h.1).1⟩
theorem Sep.addBlk {B : Nat} {w0 w : World} {l : List Res} (h : Sep B w0 w l) (o : Obj) : Sep B w0 (w.alloc o) (Blk w.heap.size o :: l) :=
  h.add ((Below.refl _ _).alloc (Nat.le_refl _) _) (good_blk _ _) (X := fun k => k = w.heap.size) ⟨heap_alloc_new w o, fun _ => Iff.rfl⟩ (fun k hk => Nat.le_of_eq hk.symm)
theorem Sep.blk {B : Nat} {w0 w : World} {l : List Res} {q : Nat} {o : Obj} (h : Sep B w0 w (Blk q o :: l)) : w.heap[q]? = some o := by
  obtain ⟨_, _, Y, ⟨_, X, _, ha, _⟩, _⟩ := h; exact ha.1
theorem Sep.drop {B : Nat} {w0 w : World} {l : List Res} {a : Res} (h : Sep B w0 w (a :: l)) : Sep B w0 w l := by
  obtain ⟨hB, hb, Y, ⟨_, X, Z, _, hl, _, hy⟩, hY⟩ := h
  exact ⟨hB, hb, Z, hl, fun k hk => hY k ((hy k).2 (.inr hk))⟩
theorem act_cells {w : World} {q : Nat} {v0 v1 v2 v3 v4 v5 : Value} {t : TypeId} (h : w.heap[q]? = some (.cells #[v0, v1, v2, v3, v4, v5] t (0, 0))) :
    w.cell? ⟨q, 0, none⟩ = some v0 ∧ w.cell? ⟨q, 1, none⟩ = some v1 ∧ w.cell? ⟨q, 2, none⟩ = some v2 ∧ w.cell? ⟨q, 3, none⟩ = some v3 ∧ w.cell? ⟨q, 4, none⟩ = some v4 ∧ w.cell? ⟨q, 5, none⟩ = some v5 ∧ q < w.heap.size := by
  simp [World.cell?, h]
  exact (Array.getElem?_eq_some_iff.1 h).1
theorem quietly {P : Program} {f : Nat} {args : Array Value} {v : Value} {W : World} (h : ∀ m, Calls P f args (W.drewN m) fun e w' => e = .returned v ∧ W.drewN m = w') (m : Nat) : Calls P f args (W.drewN m) fun e w'' => e = .returned v ∧ ∃ k, w'' = W.drewN k :=
  (h m).mono fun _ _ h => ⟨h.1, m, h.2.symm⟩
theorem Dk.sureAt_no (d : Dk) : d.sureAt (-1) = ByteArray.empty ∧ d.sureAt d.sure.length = ByteArray.empty := by
  unfold Dk.sureAt Dk.has
  constructor
  · rw [if_neg (by simp)]
  · rw [if_neg (by simp)]
theorem Dk.put_len (d : Dk) (i : Int) (s : ByteArray) {t : Nat} (h : d.pend.length ≤ t) : (d.put i s).2.pend.length ≤ t + 1 := Nat.le_trans (d.put_sure i s).2 (by omega)

set_option maxHeartbeats 16000000 in
set_option maxRecDepth 100000 in
theorem does_walk (n : Int) (v : Value) (l : List A1) (w : World) (h : ActRow w v l) : Calls Try.prog 3 #[.int .i64 n, v] w fun e w' => e = .returned (.bool true) ∧ Below w.heap.size w w' := by
  have CW : Hid _ := works_c w
  obtain ⟨ao, cap, rfl, hrow⟩ := h.row
  have HA : Hid (ActRow w (.slice ao l.length cap) l) := h
  clear h hrow
  cases hlt : lightB n l with
  | false =>
    have HLT : Hid (lightB n l = false) := hlt
    clear hlt
    go_enter Try.func3, Try.ntmps3
    go_wp2_with fail
    refine Calls.mono CW.out ?_
    rintro e w1 ⟨rfl, b1⟩
    have CL0 := light_c n _ l w1 (HA.out.below b1 (Nat.le_refl _))
    rw [HLT.out] at CL0
    have CL : Hid _ := CL0
    have S1 : Hid (Sep w.heap.size w w1 []) := Sep.nil b1.size b1
    clear b1 CW CL0
    go_wp2_with fail
    refine Calls.mono CL.out ?_
    rintro e w2 ⟨rfl, rfl⟩
    clear CL
    go_wp2
    go_ret
    exact ⟨rfl, S1.out.bel⟩
  | true =>
    have HLT : Hid (lightB n l = true) := hlt
    have hll : l.length ≤ 60 := by unfold lightB at hlt; simp at hlt; omega
    have KL : Hid (∀ a ∈ l, a.keep.length ≤ 60) := fun a ha => by
      unfold lightB at hlt
      rw [Bool.and_eq_true, List.all_eq_true] at hlt
      exact of_decide_eq_true (hlt.2 a ha)
    clear hlt
    go_enter Try.func3, Try.ntmps3
    go_wp2_with fail
    refine Calls.mono CW.out ?_
    rintro e w1 ⟨rfl, b1⟩
    have CL0 := light_c n _ l w1 (HA.out.below b1 (Nat.le_refl _))
    rw [HLT.out] at CL0
    have CL : Hid _ := CL0
    have S1 : Hid (Sep w.heap.size w w1 []) := Sep.nil b1.size b1
    clear b1 CW CL0
    go_wp2_with fail
    refine Calls.mono CL.out ?_
    rintro e w2 ⟨rfl, rfl⟩
    clear CL
    have CN : Hid _ := new_s n S1.out
    go_wp2_with fail
    refine Calls.mono CN.out ?_
    rintro e w3 ⟨b, rfl, s3⟩
    have CN2 : Hid _ := new_rs n s3
    clear s3 CN S1
    go_wp2_with fail
    refine Calls.mono CN2.out ?_
    rintro e w4 ⟨c, rfl, s4⟩
    have S3 : Hid (Sep w.heap.size w w4 [Disk b (Dk.new n), RefD c (Dk.new n)]) := s4.up1
    clear s4 CN2
    go_wp2
    go_loopg [9] l.length (fun gk s9 wr => ∃ (t : Nat) (d : Dk), s9 = .int .i64 t ∧ t ≤ l.length ∧ l.length - t ≤ gk ∧ Hid (d.pend.length ≤ t) ∧ Aside (Sep w.heap.size w wr [Disk b d, RefD c d]))
    case atStart => exact ⟨0, _, rfl, Nat.zero_le _, Nat.le_refl _, Nat.le_refl _, S3.out⟩
    case round =>
      clear S3
      obtain ⟨t, d, rfl, ht, hgt, HI, S⟩ := hrel
      by_cases htl : t < l.length
      · have htz : (t : Int) < (l.length : Int) := by omega
        obtain ⟨r, o, rfl, hr, x0, x1, x2, x3, x4, x5, hik, hb, hi63⟩ := HA.out.at S.out.bel (Nat.le_refl _) htl
        have hm : l.getD t a0 ∈ l := by rw [List.getD_eq_getElem?_getD, List.getElem?_eq_getElem htl]; exact List.getElem_mem htl
        have hk60 := KL.out _ hm
        have IK0 := (HA.out.ok _ hm).1
        obtain ⟨A, hA⟩ : ∃ A, l.getD t a0 = A := ⟨_, rfl⟩
        rw [hA] at x0 x1 x2 x3 x4 x5 hik hb hi63 hk60 IK0
        obtain ⟨ak, ck, ek, hkr⟩ := id IK0
        rw [ek] at x3 IK0
        have IK : Hid (IntRow w (.slice ak A.keep.length ck) A.keep) := IK0
        have KB : Hid (A.keep ≠ [] → ∀ r o n c, Value.slice ak A.keep.length ck = .slice (some ⟨r, o, none⟩) n c → r < w.heap.size) := fun hne r o n c e => by
          obtain ⟨r', o', e', hr', _⟩ := hkr hne
          cases e
          cases e'
          exact hr'
        clear hm hA hik IK0 ek hkr
        have S1 : Hid (Sep w.heap.size w (wr.alloc (.cells #[.int .i64 A.k, .int .i64 A.i, .int .u8 A.b, .slice ak A.keep.length ck, .int .i64 A.torn, .int .i64 A.cut] 31)) [Blk wr.heap.size (.cells #[.int .i64 A.k, .int .i64 A.i, .int .u8 A.b, .slice ak A.keep.length ck, .int .i64 A.torn, .int .i64 A.cut] 31), Disk b d, RefD c d]) := S.out.addBlk (.cells #[.int .i64 A.k, .int .i64 A.i, .int .u8 A.b, .slice ak A.keep.length ck, .int .i64 A.torn, .int .i64 A.cut] 31)
        obtain ⟨a0c, a1c, a2c, a3c, a4c, a5c, ltq⟩ := act_cells S1.out.blk
        by_cases hk0 : Int.tmod A.k 6 = 0
        · have CR0 := read_s S1.out.up1 A.i
          have CR1 := fun u (hu : Sep w.heap.size w u [RefD c d, Blk wr.heap.size (.cells #[.int .i64 A.k, .int .i64 A.i, .int .u8 A.b, .slice ak A.keep.length ck, .int .i64 A.torn, .int .i64 A.cut] 31), Disk b (d.get A.i).2]) => read_rs hu A.i (by have := HI.out; omega)
          have I2 : Hid ((d.get A.i).2.pend.length ≤ t + 1) := by show _ ≤ _; rw [(d.get_length A.i).2]; have := HI.out; omega
          generalize (d.get A.i).1.1 = x at CR0 CR1
          generalize (d.get A.i).1.2 = er at CR0 CR1
          generalize (d.get A.i).2 = d2 at CR0 CR1 I2
          have CR : Hid _ := CR0
          have CRb : Hid _ := CR1
          clear CR0 CR1
          go_wp2_with fail
          refine Calls.mono CR.out ?_
          rintro e w5 ⟨rfl, s5⟩
          have S5 : Hid (Sep w.heap.size w w5 [Blk wr.heap.size (.cells #[.int .i64 A.k, .int .i64 A.i, .int .u8 A.b, .slice ak A.keep.length ck, .int .i64 A.torn, .int .i64 A.cut] 31), Disk b d2, RefD c d]) := s5.up1
          clear s5 CR a0c a1c a2c a3c a4c a5c ltq
          obtain ⟨_, a1c, _, _, _, _, ltq⟩ := act_cells S5.out.blk
          have CR2 : Hid _ := CRb.out w5 S5.out.up2
          clear CRb
          go_wp2_with fail
          refine Calls.mono CR2.out ?_
          rintro e w6 ⟨rfl, s6⟩
          have S6 : Hid (Sep w.heap.size w w6 [Blk wr.heap.size (.cells #[.int .i64 A.k, .int .i64 A.i, .int .u8 A.b, .slice ak A.keep.length ck, .int .i64 A.torn, .int .i64 A.cut] 31), Disk b d2, RefD c d2]) := s6.dn2
          clear s6 CR2 S5
          obtain ⟨sv, wv, hR⟩ := S6.out.up2.ref
          obtain ⟨asv, csv, es⟩ := hR.sv_slice
          obtain ⟨awv, cwv, ew⟩ := hR.wv_slice
          have k0 := hR.c0; have k1 := hR.c1; have k2 := hR.c2; have k4 := hR.c4; have k5 := hR.c5; have ltc := hR.bl
          rw [es] at k0
          rw [ew] at k1
          have Q1 : Hid _ := quietly fun m => sectors_s (S6.out.up1.drewN m)
          have Q2 : Hid _ := quietly fun m => pending_s (S6.out.up1.drewN m)
          have Q3 : Hid _ := quietly fun m => down_s (S6.out.up1.drewN m)
          have Q4 : Hid _ := quietly fun m => reads_s (S6.out.up1.drewN m)
          have Q5 : Hid _ := quietly fun m => writes_s (S6.out.up1.drewN m)
          have Q60 := fun m => sure_s (S6.out.up1.drewN m) (-1)
          rw [d2.sureAt_no.1] at Q60
          have Q70 := fun m => sure_s (S6.out.up1.drewN m) (d2.sure.length : Int)
          rw [d2.sureAt_no.2] at Q70
          have Q6 : Hid _ := quietly Q60
          have Q7 : Hid _ := quietly Q70
          clear Q60 Q70 hR es ew
          go_wp2
          go_big_quiet (first | (go_at_call 24; with_reducible exact Q1.out _) | (go_at_call 25; with_reducible exact Q2.out _) | (go_at_call 26; with_reducible exact Q3.out _) | (go_at_call 27; with_reducible exact Q4.out _) | (go_at_call 28; with_reducible exact Q5.out _) | (go_at_call 29; with_reducible exact Q6.out _) | (go_at_call 29; with_reducible exact Q7.out _))
          clear Q1 Q2 Q3 Q4 Q5 Q6 Q7
          go_wp2
          go_roundg (l.length - (t + 1))
          case measure => omega
          case rel => exact ⟨t + 1, d2, by go_num, by omega, Nat.le_refl _, I2, (S6.out.drewN _).drop⟩
        · have nk0 : (Int.tmod A.k 6 == 0) = false := beq_eq_false_iff_ne.2 hk0
          by_cases hk1 : Int.tmod A.k 6 = 1
          · have CR0 := fun u (hu : Sep w.heap.size w u [Disk b d, Blk wr.heap.size (.cells #[.int .i64 A.k, .int .i64 A.i, .int .u8 A.b, .slice ak A.keep.length ck, .int .i64 A.torn, .int .i64 A.cut] 31), RefD c d]) => write_s hu A.i (pageS A.b) (pageS_le _) (by have := HI.out; omega)
            have CR1 := fun u (hu : Sep w.heap.size w u [RefD c d, Blk wr.heap.size (.cells #[.int .i64 A.k, .int .i64 A.i, .int .u8 A.b, .slice ak A.keep.length ck, .int .i64 A.torn, .int .i64 A.cut] 31), Disk b (d.put A.i (pageS A.b)).2]) => put_rs hu A.i (pageS A.b) (pageS_le _) (by have := HI.out; omega)
            have I2 : Hid ((d.put A.i (pageS A.b)).2.pend.length ≤ t + 1) := d.put_len _ _ HI.out
            generalize (d.put A.i (pageS A.b)).1 = er at CR0 CR1
            generalize (d.put A.i (pageS A.b)).2 = d2 at CR0 CR1 I2
            have CR : Hid _ := CR0
            have CRb : Hid _ := CR1
            have SD : Hid (Sep w.heap.size w (wr.alloc (.cells #[.int .i64 A.k, .int .i64 A.i, .int .u8 A.b, .slice ak A.keep.length ck, .int .i64 A.torn, .int .i64 A.cut] 31)).drew [Blk wr.heap.size (.cells #[.int .i64 A.k, .int .i64 A.i, .int .u8 A.b, .slice ak A.keep.length ck, .int .i64 A.torn, .int .i64 A.cut] 31), Disk b d, RefD c d]) := S1.out.drew
            clear CR0 CR1
            go_wp2_with fail
            go_region_held3 (fun w' => w'.cell? ⟨wr.heap.size, 1, none⟩ = some (.int .i64 A.i) ∧ w'.cell? ⟨wr.heap.size, 2, none⟩ = some (.int .u8 A.b)) (first | assumption | exact ⟨a1c, a2c⟩) ((first | (go_at_call 16; refine Calls.mono (page_o A.b hb _) ?_; rintro e w4 ⟨rfl, lx⟩; have sx := Sep.below (Hid.out (by assumption : Hid (Sep w.heap.size w _ [Blk wr.heap.size (.cells #[.int .i64 A.k, .int .i64 A.i, .int .u8 A.b, .slice ak A.keep.length ck, .int .i64 A.torn, .int .i64 A.cut] 31), Disk b d, RefD c d]))) lx; have hx := act_cells sx.blk; have hS := And.intro hx.2.1 hx.2.2.1; have SX : Hid (Sep w.heap.size w w4 [Blk wr.heap.size (.cells #[.int .i64 A.k, .int .i64 A.i, .int .u8 A.b, .slice ak A.keep.length ck, .int .i64 A.torn, .int .i64 A.cut] 31), Disk b d, RefD c d]) := sx; clear sx hx lx) | (go_at_call 16; refine Calls.mono (page_o A.b hb _) ?_; rintro e w4 ⟨rfl, lx⟩; have sx := Sep.below (Hid.out (by assumption : Hid (Sep w.heap.size w _ [Blk wr.heap.size (.cells #[.int .i64 A.k, .int .i64 A.i, .int .u8 A.b, .slice ak A.keep.length ck, .int .i64 A.torn, .int .i64 A.cut] 31), Disk b d2, RefD c d]))) lx; have hx := act_cells sx.blk; have hS := And.intro hx.2.1 hx.2.2.1; have SX : Hid (Sep w.heap.size w w4 [Blk wr.heap.size (.cells #[.int .i64 A.k, .int .i64 A.i, .int .u8 A.b, .slice ak A.keep.length ck, .int .i64 A.torn, .int .i64 A.cut] 31), Disk b d2, RefD c d]) := sx; clear sx hx lx) | (go_at_call 15; refine Calls.mono (CR.out _ (Hid.out (by assumption : Hid (Sep w.heap.size w _ [Blk wr.heap.size (.cells #[.int .i64 A.k, .int .i64 A.i, .int .u8 A.b, .slice ak A.keep.length ck, .int .i64 A.torn, .int .i64 A.cut] 31), Disk b d, RefD c d]))).up1) ?_; rintro e w4 ⟨rfl, sx0⟩; have sx := sx0.up1; have hx := act_cells sx.blk; have hS := And.intro hx.2.1 hx.2.2.1; have SX : Hid (Sep w.heap.size w w4 [Blk wr.heap.size (.cells #[.int .i64 A.k, .int .i64 A.i, .int .u8 A.b, .slice ak A.keep.length ck, .int .i64 A.torn, .int .i64 A.cut] 31), Disk b d2, RefD c d]) := sx; clear sx sx0 hx) | (go_at_call 17; refine Calls.mono (CRb.out _ (Hid.out (by assumption : Hid (Sep w.heap.size w _ [Blk wr.heap.size (.cells #[.int .i64 A.k, .int .i64 A.i, .int .u8 A.b, .slice ak A.keep.length ck, .int .i64 A.torn, .int .i64 A.cut] 31), Disk b d2, RefD c d]))).up2) ?_; rintro e w4 ⟨rfl, sx0⟩; have sx := sx0.dn2; have hx := act_cells sx.blk; have hS := And.intro hx.2.1 hx.2.2.1; have SY : Hid (Sep w.heap.size w w4 [Blk wr.heap.size (.cells #[.int .i64 A.k, .int .i64 A.i, .int .u8 A.b, .slice ak A.keep.length ck, .int .i64 A.torn, .int .i64 A.cut] 31), Disk b d2, RefD c d2]) := sx; clear sx sx0 hx)))
            all_goals
              clear CR CRb
              obtain ⟨sv, wv, hR⟩ := SY.out.up2.ref
              obtain ⟨asv, csv, es⟩ := hR.sv_slice
              obtain ⟨awv, cwv, ew⟩ := hR.wv_slice
              have k0 := hR.c0; have k1 := hR.c1; have k2 := hR.c2; have k4 := hR.c4; have k5 := hR.c5; have ltc := hR.bl
              rw [es] at k0
              rw [ew] at k1
              have Q1 : Hid _ := quietly fun m => sectors_s (SY.out.up1.drewN m)
              have Q2 : Hid _ := quietly fun m => pending_s (SY.out.up1.drewN m)
              have Q3 : Hid _ := quietly fun m => down_s (SY.out.up1.drewN m)
              have Q4 : Hid _ := quietly fun m => reads_s (SY.out.up1.drewN m)
              have Q5 : Hid _ := quietly fun m => writes_s (SY.out.up1.drewN m)
              have Q60 := fun m => sure_s (SY.out.up1.drewN m) (-1)
              rw [d2.sureAt_no.1] at Q60
              have Q70 := fun m => sure_s (SY.out.up1.drewN m) (d2.sure.length : Int)
              rw [d2.sureAt_no.2] at Q70
              have Q6 : Hid _ := quietly Q60
              have Q7 : Hid _ := quietly Q70
              clear Q60 Q70 hR es ew
              go_wp2
              go_big_quiet (first | (go_at_call 24; with_reducible exact Q1.out _) | (go_at_call 25; with_reducible exact Q2.out _) | (go_at_call 26; with_reducible exact Q3.out _) | (go_at_call 27; with_reducible exact Q4.out _) | (go_at_call 28; with_reducible exact Q5.out _) | (go_at_call 29; with_reducible exact Q6.out _) | (go_at_call 29; with_reducible exact Q7.out _))
              clear Q1 Q2 Q3 Q4 Q5 Q6 Q7
              go_wp2
              go_roundg (l.length - (t + 1))
              case measure => omega
              case rel => exact ⟨t + 1, d2, by go_num, by omega, Nat.le_refl _, I2, (SY.out.drewN _).drop⟩
          · have nk1 : (Int.tmod A.k 6 == 1) = false := beq_eq_false_iff_ne.2 hk1
            by_cases hk2 : Int.tmod A.k 6 = 2
            · have CR0 := sync_s S1.out.up1 (by have := HI.out; omega)
              have CR1 := fun u (hu : Sep w.heap.size w u [RefD c d, Blk wr.heap.size (.cells #[.int .i64 A.k, .int .i64 A.i, .int .u8 A.b, .slice ak A.keep.length ck, .int .i64 A.torn, .int .i64 A.cut] 31), Disk b d.sync.2]) => sync_rs hu (by have := HI.out; omega)
              have I2 : Hid (d.sync.2.pend.length ≤ t + 1) := Nat.le_trans d.sync_length.2 (by have := HI.out; omega)
              generalize d.sync.1 = er at CR0 CR1
              generalize d.sync.2 = d2 at CR0 CR1 I2
              have CR : Hid _ := CR0
              have CRb : Hid _ := CR1
              clear CR0 CR1
              go_wp2_with fail
              refine Calls.mono CR.out ?_
              rintro e w5 ⟨rfl, s5⟩
              have S5 : Hid (Sep w.heap.size w w5 [Blk wr.heap.size (.cells #[.int .i64 A.k, .int .i64 A.i, .int .u8 A.b, .slice ak A.keep.length ck, .int .i64 A.torn, .int .i64 A.cut] 31), Disk b d2, RefD c d]) := s5.up1
              clear s5 CR
              have CR2 : Hid _ := CRb.out w5 S5.out.up2
              clear CRb
              go_wp2_with fail
              refine Calls.mono CR2.out ?_
              rintro e w6 ⟨rfl, s6⟩
              have S6 : Hid (Sep w.heap.size w w6 [Blk wr.heap.size (.cells #[.int .i64 A.k, .int .i64 A.i, .int .u8 A.b, .slice ak A.keep.length ck, .int .i64 A.torn, .int .i64 A.cut] 31), Disk b d2, RefD c d2]) := s6.dn2
              clear s6 CR2 S5
              obtain ⟨sv, wv, hR⟩ := S6.out.up2.ref
              obtain ⟨asv, csv, es⟩ := hR.sv_slice
              obtain ⟨awv, cwv, ew⟩ := hR.wv_slice
              have k0 := hR.c0; have k1 := hR.c1; have k2 := hR.c2; have k4 := hR.c4; have k5 := hR.c5; have ltc := hR.bl
              rw [es] at k0
              rw [ew] at k1
              have Q1 : Hid _ := quietly fun m => sectors_s (S6.out.up1.drewN m)
              have Q2 : Hid _ := quietly fun m => pending_s (S6.out.up1.drewN m)
              have Q3 : Hid _ := quietly fun m => down_s (S6.out.up1.drewN m)
              have Q4 : Hid _ := quietly fun m => reads_s (S6.out.up1.drewN m)
              have Q5 : Hid _ := quietly fun m => writes_s (S6.out.up1.drewN m)
              have Q60 := fun m => sure_s (S6.out.up1.drewN m) (-1)
              rw [d2.sureAt_no.1] at Q60
              have Q70 := fun m => sure_s (S6.out.up1.drewN m) (d2.sure.length : Int)
              rw [d2.sureAt_no.2] at Q70
              have Q6 : Hid _ := quietly Q60
              have Q7 : Hid _ := quietly Q70
              clear Q60 Q70 hR es ew
              go_wp2
              go_big_quiet (first | (go_at_call 24; with_reducible exact Q1.out _) | (go_at_call 25; with_reducible exact Q2.out _) | (go_at_call 26; with_reducible exact Q3.out _) | (go_at_call 27; with_reducible exact Q4.out _) | (go_at_call 28; with_reducible exact Q5.out _) | (go_at_call 29; with_reducible exact Q6.out _) | (go_at_call 29; with_reducible exact Q7.out _))
              clear Q1 Q2 Q3 Q4 Q5 Q6 Q7
              go_wp2
              go_roundg (l.length - (t + 1))
              case measure => omega
              case rel => exact ⟨t + 1, d2, by go_num, by omega, Nat.le_refl _, I2, (S6.out.drewN _).drop⟩
            · have nk2 : (Int.tmod A.k 6 == 2) = false := beq_eq_false_iff_ne.2 hk2
              by_cases hk3 : Int.tmod A.k 6 = 3
              · have CR0 := break_s S1.out.up1 A.i hi63
                have CR1 := fun u (hu : Sep w.heap.size w u [RefD c d, Blk wr.heap.size (.cells #[.int .i64 A.k, .int .i64 A.i, .int .u8 A.b, .slice ak A.keep.length ck, .int .i64 A.torn, .int .i64 A.cut] 31), Disk b (d.stop A.i)]) => stop_rs hu A.i hi63
                have I2 : Hid ((d.stop A.i).pend.length ≤ t + 1) := Nat.le_trans HI.out (by omega)
                generalize d.stop A.i = d2 at CR0 CR1 I2
                have CR : Hid _ := CR0
                have CRb : Hid _ := CR1
                clear CR0 CR1
                go_wp2_with fail
                refine Calls.mono CR.out ?_
                rintro e w5 ⟨rfl, s5⟩
                have S5 : Hid (Sep w.heap.size w w5 [Blk wr.heap.size (.cells #[.int .i64 A.k, .int .i64 A.i, .int .u8 A.b, .slice ak A.keep.length ck, .int .i64 A.torn, .int .i64 A.cut] 31), Disk b d2, RefD c d]) := s5.up1
                clear s5 CR a0c a1c a2c a3c a4c a5c ltq
                obtain ⟨_, a1c, _, _, _, _, ltq⟩ := act_cells S5.out.blk
                have CR2 : Hid _ := CRb.out w5 S5.out.up2
                clear CRb
                go_wp2_with fail
                refine Calls.mono CR2.out ?_
                rintro e w6 ⟨rfl, s6⟩
                have S6 : Hid (Sep w.heap.size w w6 [Blk wr.heap.size (.cells #[.int .i64 A.k, .int .i64 A.i, .int .u8 A.b, .slice ak A.keep.length ck, .int .i64 A.torn, .int .i64 A.cut] 31), Disk b d2, RefD c d2]) := s6.dn2
                clear s6 CR2 S5
                obtain ⟨sv, wv, hR⟩ := S6.out.up2.ref
                obtain ⟨asv, csv, es⟩ := hR.sv_slice
                obtain ⟨awv, cwv, ew⟩ := hR.wv_slice
                have k0 := hR.c0; have k1 := hR.c1; have k2 := hR.c2; have k4 := hR.c4; have k5 := hR.c5; have ltc := hR.bl
                rw [es] at k0
                rw [ew] at k1
                have Q1 : Hid _ := quietly fun m => sectors_s (S6.out.up1.drewN m)
                have Q2 : Hid _ := quietly fun m => pending_s (S6.out.up1.drewN m)
                have Q3 : Hid _ := quietly fun m => down_s (S6.out.up1.drewN m)
                have Q4 : Hid _ := quietly fun m => reads_s (S6.out.up1.drewN m)
                have Q5 : Hid _ := quietly fun m => writes_s (S6.out.up1.drewN m)
                have Q60 := fun m => sure_s (S6.out.up1.drewN m) (-1)
                rw [d2.sureAt_no.1] at Q60
                have Q70 := fun m => sure_s (S6.out.up1.drewN m) (d2.sure.length : Int)
                rw [d2.sureAt_no.2] at Q70
                have Q6 : Hid _ := quietly Q60
                have Q7 : Hid _ := quietly Q70
                clear Q60 Q70 hR es ew
                go_wp2
                go_big_quiet (first | (go_at_call 24; with_reducible exact Q1.out _) | (go_at_call 25; with_reducible exact Q2.out _) | (go_at_call 26; with_reducible exact Q3.out _) | (go_at_call 27; with_reducible exact Q4.out _) | (go_at_call 28; with_reducible exact Q5.out _) | (go_at_call 29; with_reducible exact Q6.out _) | (go_at_call 29; with_reducible exact Q7.out _))
                clear Q1 Q2 Q3 Q4 Q5 Q6 Q7
                go_wp2
                go_roundg (l.length - (t + 1))
                case measure => omega
                case rel => exact ⟨t + 1, d2, by go_num, by omega, Nat.le_refl _, I2, (S6.out.drewN _).drop⟩
              · have nk3 : (Int.tmod A.k 6 == 3) = false := beq_eq_false_iff_ne.2 hk3
                by_cases hk4 : Int.tmod A.k 6 = 4
                · have CR0 := crash_s S1.out.up1 _ _ (IK.out.below S1.out.bel (Nat.le_refl _)) A.torn A.cut (by have := HI.out; omega) (by omega)
                  have CR1 := fun u (hu : Sep w.heap.size w u [RefD c d, Blk wr.heap.size (.cells #[.int .i64 A.k, .int .i64 A.i, .int .u8 A.b, .slice ak A.keep.length ck, .int .i64 A.torn, .int .i64 A.cut] 31), Disk b (d.crash A.keep A.torn A.cut)]) => crash_rs hu _ _ (IK.out.below hu.bel (Nat.le_refl _)) A.torn A.cut (by have := HI.out; omega) (by omega) KB.out
                  have I2 : Hid ((d.crash A.keep A.torn A.cut).pend.length ≤ t + 1) := Nat.zero_le _
                  generalize d.crash A.keep A.torn A.cut = d2 at CR0 CR1 I2
                  have CR : Hid _ := CR0
                  have CRb : Hid _ := CR1
                  clear CR0 CR1
                  go_wp2_with fail
                  refine Calls.mono CR.out ?_
                  rintro e w5 ⟨rfl, s5⟩
                  have S5 : Hid (Sep w.heap.size w w5 [Blk wr.heap.size (.cells #[.int .i64 A.k, .int .i64 A.i, .int .u8 A.b, .slice ak A.keep.length ck, .int .i64 A.torn, .int .i64 A.cut] 31), Disk b d2, RefD c d]) := s5.up1
                  clear s5 CR a0c a1c a2c a3c a4c a5c ltq
                  obtain ⟨_, _, _, a3c, a4c, a5c, ltq⟩ := act_cells S5.out.blk
                  have CR2 : Hid _ := CRb.out w5 S5.out.up2
                  clear CRb
                  go_wp2_with fail
                  refine Calls.mono CR2.out ?_
                  rintro e w6 ⟨rfl, s6⟩
                  have S6 : Hid (Sep w.heap.size w w6 [Blk wr.heap.size (.cells #[.int .i64 A.k, .int .i64 A.i, .int .u8 A.b, .slice ak A.keep.length ck, .int .i64 A.torn, .int .i64 A.cut] 31), Disk b d2, RefD c d2]) := s6.dn2
                  clear s6 CR2 S5
                  obtain ⟨sv, wv, hR⟩ := S6.out.up2.ref
                  obtain ⟨asv, csv, es⟩ := hR.sv_slice
                  obtain ⟨awv, cwv, ew⟩ := hR.wv_slice
                  have k0 := hR.c0; have k1 := hR.c1; have k2 := hR.c2; have k4 := hR.c4; have k5 := hR.c5; have ltc := hR.bl
                  rw [es] at k0
                  rw [ew] at k1
                  have Q1 : Hid _ := quietly fun m => sectors_s (S6.out.up1.drewN m)
                  have Q2 : Hid _ := quietly fun m => pending_s (S6.out.up1.drewN m)
                  have Q3 : Hid _ := quietly fun m => down_s (S6.out.up1.drewN m)
                  have Q4 : Hid _ := quietly fun m => reads_s (S6.out.up1.drewN m)
                  have Q5 : Hid _ := quietly fun m => writes_s (S6.out.up1.drewN m)
                  have Q60 := fun m => sure_s (S6.out.up1.drewN m) (-1)
                  rw [d2.sureAt_no.1] at Q60
                  have Q70 := fun m => sure_s (S6.out.up1.drewN m) (d2.sure.length : Int)
                  rw [d2.sureAt_no.2] at Q70
                  have Q6 : Hid _ := quietly Q60
                  have Q7 : Hid _ := quietly Q70
                  clear Q60 Q70 hR es ew
                  go_wp2
                  go_big_quiet (first | (go_at_call 24; with_reducible exact Q1.out _) | (go_at_call 25; with_reducible exact Q2.out _) | (go_at_call 26; with_reducible exact Q3.out _) | (go_at_call 27; with_reducible exact Q4.out _) | (go_at_call 28; with_reducible exact Q5.out _) | (go_at_call 29; with_reducible exact Q6.out _) | (go_at_call 29; with_reducible exact Q7.out _))
                  clear Q1 Q2 Q3 Q4 Q5 Q6 Q7
                  go_wp2
                  go_roundg (l.length - (t + 1))
                  case measure => omega
                  case rel => exact ⟨t + 1, d2, by go_num, by omega, Nat.le_refl _, I2, (S6.out.drewN _).drop⟩
                · have nk4 : (Int.tmod A.k 6 == 4) = false := beq_eq_false_iff_ne.2 hk4
                  have I2 : Hid (d.pend.length ≤ t + 1) := Nat.le_trans HI.out (by omega)
                  obtain ⟨sv, wv, hR⟩ := S1.out.up2.ref
                  obtain ⟨asv, csv, es⟩ := hR.sv_slice
                  obtain ⟨awv, cwv, ew⟩ := hR.wv_slice
                  have k0 := hR.c0; have k1 := hR.c1; have k2 := hR.c2; have k4 := hR.c4; have k5 := hR.c5; have ltc := hR.bl
                  rw [es] at k0
                  rw [ew] at k1
                  have Q1 : Hid _ := quietly fun m => sectors_s (S1.out.up1.drewN m)
                  have Q2 : Hid _ := quietly fun m => pending_s (S1.out.up1.drewN m)
                  have Q3 : Hid _ := quietly fun m => down_s (S1.out.up1.drewN m)
                  have Q4 : Hid _ := quietly fun m => reads_s (S1.out.up1.drewN m)
                  have Q5 : Hid _ := quietly fun m => writes_s (S1.out.up1.drewN m)
                  have Q60 := fun m => sure_s (S1.out.up1.drewN m) (-1)
                  rw [d.sureAt_no.1] at Q60
                  have Q70 := fun m => sure_s (S1.out.up1.drewN m) (d.sure.length : Int)
                  rw [d.sureAt_no.2] at Q70
                  have Q6 : Hid _ := quietly Q60
                  have Q7 : Hid _ := quietly Q70
                  clear Q60 Q70 hR es ew
                  go_wp2
                  go_big_quiet (first | (go_at_call 24; with_reducible exact Q1.out _) | (go_at_call 25; with_reducible exact Q2.out _) | (go_at_call 26; with_reducible exact Q3.out _) | (go_at_call 27; with_reducible exact Q4.out _) | (go_at_call 28; with_reducible exact Q5.out _) | (go_at_call 29; with_reducible exact Q6.out _) | (go_at_call 29; with_reducible exact Q7.out _))
                  clear Q1 Q2 Q3 Q4 Q5 Q6 Q7
                  go_wp2
                  go_roundg (l.length - (t + 1))
                  case measure => omega
                  case rel => exact ⟨t + 1, d, by go_num, by omega, Nat.le_refl _, I2, (S1.out.drewN _).drop⟩
      · have htz : ¬ (t : Int) < (l.length : Int) := by omega
        have hsl := S.out.ok.len
        clear HI
        go_wp2
        go_loopg [15] d.sure.length (fun gk s15 wq => ∃ u : Nat, s15 = .int .i64 u ∧ u ≤ d.sure.length ∧ d.sure.length - u ≤ gk ∧ Aside (Sep w.heap.size w wq [Disk b d, RefD c d]))
        case atStart => exact ⟨0, rfl, by omega, by omega, S⟩
        case round =>
          clear S
          obtain ⟨u, rfl, hu, hgu, S⟩ := hrel
          obtain ⟨sv, wv, hR⟩ := S.out.up1.ref
          obtain ⟨asv, csv, es⟩ := hR.sv_slice
          have k0 := hR.c0; have ltc := hR.bl
          by_cases hul : u < d.sure.length
          · have huz : (u : Int) < (d.sure.length : Int) := by omega
            obtain ⟨rq, cq, eq2, y0, _, hrq⟩ := hR.scell hul
            rw [eq2] at k0
            have Q60 := fun j => sure_s (S.out.drewN j) (u : Int)
            rw [show d.sureAt u = sAt d.sure u by unfold Dk.sureAt; rw [if_pos (Dk.has_nat hul)]; rfl] at Q60
            generalize sAt d.sure u = x at y0 Q60
            have Q6 : Hid _ := quietly Q60
            clear Q60 eq2 hR es
            go_wp2
            go_big_quiet (first | (go_at_call 29; with_reducible exact Q6.out _))
            clear Q6
            go_wp2
            go_roundg (d.sure.length - (u + 1))
            case measure => omega
            case rel => exact ⟨u + 1, by go_num, by omega, Nat.le_refl _, S.out.drewN _⟩
          · have huz : ¬ (u : Int) < (d.sure.length : Int) := by omega
            rw [es] at k0
            clear hR es
            go_wp2
            go_ret
            exact ⟨rfl, S.out.bel⟩

end Go.Proofs.Ytnmmikgmhoecpaa

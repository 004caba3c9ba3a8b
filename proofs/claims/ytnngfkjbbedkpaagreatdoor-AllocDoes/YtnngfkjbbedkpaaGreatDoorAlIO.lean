/-
  The walks of package alloc's Get and Flush.
-/
import Derived.Test.YtnngfkjbbedkpaaGreatDoorAlRows
import Derived.Test.YtnngfkjbbedkpaaGreatDoorAlGet
import Derived.Deep.LoopGhost
namespace Go.Proofs.YtnngfkjbbedkpaaGreatDoor
open Go.Shelf Go.RowKit Go.Lib Go.Sort
open Go.ChangeMaps (setBlock)
set_option linter.unusedVariables false

section
variable {B : Nat} {w0 w : World} {l : List Res} {t f b : Nat} {x : TX} {d : Dk}

set_option maxRecDepth 100000 in
set_option maxHeartbeats 2000000 in
theorem tget (T : Tabs B w0) (h : Sep B w0 w (Tx t f x :: File f b d :: l)) {id : Int} (hk : Wf id) (kind : UInt8) (h2 : 2 ≤ x.pages) (hl : x.free.length ≤ 20000) :
    Calls Tryz.prog 17 #[ptr t, .int .i64 id, .int .u8 (kind.toNat : Int)] w fun e w' => e = .returned (.tuple #[.string (x.get d id kind).1.1, .int .i64 (x.get d id kind).1.2]) ∧ Sep B w0 w' (Tx t f x :: File f b (x.get d id kind).2 :: l) := by
  have C : Hid _ := given_t (t := t) w
  obtain ⟨v, m, ho⟩ := h.txOpen
  obtain ⟨ht, q0, q1, q2, q3, qf⟩ := ho.txCells
  have hlook := ho.up2.lookOk hk
  have HS : Hid (Sep B w0 w (Tx t f x :: File f b d :: l)) := h
  unfold TX.get
  cases hx : x.fresh id with
  | some c =>
    rw [hx] at hlook
    simp only [Option.getD_some, Option.isSome_some] at hlook
    obtain ⟨ct, ck, cs⟩ := c
    unfold cV at hlook
    simp only at hlook ⊢
    have S1 : Hid (Sep B w0 (w.alloc (.cells #[.bool ct, .int .u8 (ck.toNat : Int), .string cs] 93)) (Tx t f x :: File f b d :: l)) := h.alloc _
    clear h ho hx HS hk
    cases ct with
    | false =>
      simp only [Bool.false_eq_true, false_and, if_false]
      go_enter Tryz.func17, Tryz.ntmps17
      go_wp2_with fail
      refine Calls.mono C.out ?_
      rintro e w1 ⟨rfl, rfl⟩
      clear C
      go_wp2
      go_ret2
      exact ⟨rfl, S1.out⟩
    | true =>
      by_cases hkk : ck = kind
      · subst hkk
        simp only [and_self, if_true]
        go_enter Tryz.func17, Tryz.ntmps17
        go_wp2_with fail
        refine Calls.mono C.out ?_
        rintro e w1 ⟨rfl, rfl⟩
        clear C
        go_wp2
        go_ret2
        exact ⟨rfl, S1.out⟩
      · simp only [hkk, and_false, if_false]
        have hne : ((ck.toNat : Int) == (kind.toNat : Int)) = false := beq_eq_false_iff_ne.2 (fun e => hkk (UInt8.toNat_inj.1 (by omega)))
        generalize (ck.toNat : Int) = ckz at *
        generalize (kind.toNat : Int) = kz at *
        go_enter Tryz.func17, Tryz.ntmps17
        go_wp2_with fail
        refine Calls.mono C.out ?_
        rintro e w1 ⟨rfl, rfl⟩
        clear C
        go_wp2
        go_ret2
        exact ⟨rfl, S1.out⟩
  | none =>
    rw [hx] at hlook
    simp only [Option.getD_none, Option.isSome_none] at hlook
    unfold cV c0 at hlook
    simp only [show ((0 : UInt8).toNat : Int) = 0 from rfl] at hlook ⊢
    have hlook2 : (Instr.lookup 83 (.map (some m)) (.int .i64 id) true).run Tryz.prog w = .ok (.tuple #[.agg #[.bool false, .int .u8 0, .string ⟨#[]⟩], .bool false]) w := hlook
    have S1 : Hid (Sep B w0 (w.alloc (.cells #[.bool false, .int .u8 0, .string ⟨#[]⟩] 93)) (Tx t f x :: File f b d :: l)) := h.alloc _
    have CP : Hid _ := tpages S1.out h2
    clear h ho hx HS hk hlook
    by_cases hp : (x.pages : Int) ≤ id
    · simp only [hp, true_or, if_true]
      generalize (x.pages : Int) = pz at *
      go_enter Tryz.func17, Tryz.ntmps17
      go_wp2_with fail
      refine Calls.mono C.out ?_
      rintro e w1 ⟨rfl, rfl⟩
      clear C
      go_wp2_with fail
      refine Calls.mono CP.out ?_
      rintro e w2 ⟨rfl, rfl⟩
      clear CP
      go_wp2
      go_ret2
      exact ⟨rfl, S1.out⟩
    · obtain ⟨v2, m2, ho2⟩ := S1.out.txOpen
      obtain ⟨ht2, p0, p1, p2, p3, pf⟩ := ho2.txCells
      have CH : Hid _ := has_any v2 x.free id _ ho2.up1.free.row (by omega)
      obtain ⟨av2, cv2, rfl, _⟩ := ho2.up1.free
      clear ho2
      by_cases hh : hasB x.free id = true
      · rw [hh] at CH
        simp only [hp, hh, or_true, if_true]
        generalize (x.pages : Int) = pz at *
        go_enter Tryz.func17, Tryz.ntmps17
        go_wp2_with fail
        refine Calls.mono C.out ?_
        rintro e w1 ⟨rfl, rfl⟩
        clear C
        go_wp2_with fail
        refine Calls.mono CP.out ?_
        rintro e w2 ⟨rfl, rfl⟩
        clear CP
        go_wp2_with fail
        refine Calls.mono CH.out ?_
        rintro e w3 ⟨rfl, b3⟩
        have S3 : Hid _ := Sep.below S1.out b3
        clear CH b3 S1
        go_wp2
        go_ret2
        exact ⟨rfl, S3.out⟩
      · have hf : hasB x.free id = false := by simpa using hh
        rw [hf] at CH
        simp only [hp, hf, Bool.false_eq_true, or_self, if_false, corr]
        have CR : Hid (∀ u, Sep B w0 u (Tx t f x :: File f b d :: l) → Calls Tryz.prog 36 #[ptr f, .int .i64 id, .int .u8 (kind.toNat : Int)] u fun e w' => e = .returned (.tuple #[.string (d.rd id kind).1.1, .int .i64 (d.rd id kind).1.2]) ∧ Sep B w0 w' (File f b (d.rd id kind).2 :: Tx t f x :: l)) := fun u hu => read_f T hu.up1 id kind
        generalize (d.rd id kind).1.1 = rs at *
        generalize (d.rd id kind).1.2 = re at *
        generalize (d.rd id kind).2 = d2 at *
        generalize (x.pages : Int) = pz at *
        go_enter Tryz.func17, Tryz.ntmps17
        go_wp2_with fail
        refine Calls.mono C.out ?_
        rintro e w1 ⟨rfl, rfl⟩
        clear C
        go_wp2_with fail
        refine Calls.mono CP.out ?_
        rintro e w2 ⟨rfl, rfl⟩
        clear CP
        go_wp2_with fail
        refine Calls.mono CH.out ?_
        rintro e w3 ⟨rfl, b3⟩
        have s3 : Sep B w0 w3 (Tx t f x :: File f b d :: l) := Sep.below S1.out b3
        have C4 : Hid _ := CR.out w3 s3
        obtain ⟨v4, m4, h4⟩ := s3.txOpen
        obtain ⟨u0, u1, u2, u3, u4, u5⟩ := h4.txCells
        clear CH b3 S1 CR s3 h4
        by_cases h40 : re = 40
        · subst h40
          go_wp2_with fail
          refine Calls.mono C4.out ?_
          rintro e w5 ⟨rfl, s5⟩
          have S5 : Hid (Sep B w0 w5 (Tx t f x :: File f b d2 :: l)) := s5.up1
          clear C4 s5
          go_wp2
          go_ret2
          exact ⟨rfl, S5.out⟩
        · have h4b : (re == 40) = false := beq_eq_false_iff_ne.2 h40
          go_wp2_with fail
          refine Calls.mono C4.out ?_
          rintro e w5 ⟨rfl, s5⟩
          have S5 : Hid (Sep B w0 w5 (Tx t f x :: File f b d2 :: l)) := s5.up1
          clear C4 s5
          go_wp2
          go_ret2
          exact ⟨rfl, S5.out⟩

theorem flush1_turn (g : Fr) (d : Dk) (id : Int) : (flush1 g d id).2.sure = d.sure ∧ (flush1 g d id).2.pend.length ≤ d.pend.length + 1 := by
  unfold flush1
  split
  · split
    · exact d.wr_sure _ _ _
    · exact ⟨rfl, Nat.le_succ _⟩
  · exact ⟨rfl, Nat.le_succ _⟩

set_option maxRecDepth 100000 in
set_option maxHeartbeats 2000000 in
theorem tflush (T : Tabs B w0) (h : Sep B w0 w (Tx t f x :: File f b d :: l)) (hn : x.cnt ≤ 10000) (hp : d.pend.length ≤ 10000) (hw : ∀ k c, x.fresh k = some c → c.body.size ≤ 240) (hx : ∀ k, (x.fresh k).isSome = true → Wf k) :
    Calls Tryz.prog 19 #[ptr t] w fun e w' => ∃ L, KeysOf x.fresh L ∧ L.length ≤ x.cnt ∧ e = .returned (.int .i64 (flushL x.fresh L d).1) ∧ Sep B w0 w' (Tx t f x :: File f b (flushL x.fresh L d).2 :: l) := by
  have C : Hid _ := given_t (t := t) w
  have CT : Hid _ := ttaken h (by omega)
  have HS : Hid (Sep B w0 w (Tx t f x :: File f b d :: l)) := h
  clear h
  go_enter Tryz.func19, Tryz.ntmps19
  go_wp2_with fail
  refine Calls.mono C.out ?_
  rintro e w1 ⟨rfl, rfl⟩
  clear C
  go_wp2_with fail
  refine Calls.mono CT.out ?_
  rintro e w2 ⟨v, L, rfl, hL, hlen, hrow, b2⟩
  have S2 : Hid (Sep B w0 w2 (RowR 3 v (L.map (Value.int .i64)) :: Tx t f x :: File f b d :: l)) := HS.out.add b2 (good_row _ _ _) (X := fun k => v.ownBlock = some k) ⟨by
      have := hrow
      rw [List.length_map]
      refine ⟨this.1, ?_⟩
      rcases this.2 with h0 | ⟨g, cap, cur, e0, hg, r0⟩
      · exact .inl h0
      · exact .inr ⟨g, cap, cur, e0, Nat.zero_le _, r0⟩, fun _ => Iff.rfl⟩ (fun k hk => by
      rcases hrow.2 with ⟨e0, _⟩ | ⟨g, cap, cur, e0, hg, _⟩
      · rw [e0] at hk; simp [Value.ownBlock] at hk
      · rw [e0] at hk; simp [Value.ownBlock] at hk; omega)
  obtain ⟨ao, ca, e0⟩ := S2.out.shape
  rw [List.length_map] at e0
  subst e0
  have HL : Hid (KeysOf x.fresh L) := hL
  clear CT hrow b2 HS hL
  go_wp2
  obtain ⟨R, hR⟩ : ∃ R, flushL x.fresh L d = R := ⟨_, rfl⟩
  have HR : Hid (flushL x.fresh L d = R) := hR
  have HW : Hid (∀ k c, x.fresh k = some c → c.body.size ≤ 240) := hw
  have HX : Hid (∀ k, (x.fresh k).isSome = true → Wf k) := hx
  clear hR hw hx
  go_loopg [12] L.length (fun kx s12 wr => ∃ (i : Nat) (di : Dk), s12 = .int .i64 i ∧ i ≤ L.length ∧ L.length - i ≤ kx ∧ Hid (Sep B w0 wr (RowR 3 (.slice ao L.length ca) (L.map (Value.int .i64)) :: Tx t f x :: File f b di :: l)) ∧ Hid (flushL x.fresh (L.drop i) di = R) ∧ Hid (di.pend.length ≤ d.pend.length + i))
  case atStart => exact ⟨0, d, rfl, Nat.zero_le _, Nat.le_refl _, S2, HR, Nat.le_refl _⟩
  case round =>
    obtain ⟨i, di, rfl, hi, hki, SR, FR, PR⟩ := hrel
    clear S2
    by_cases hil : i < L.length
    · have hilz : (i : Int) < (L.length : Int) := by omega
      obtain ⟨r, o, hv, hr, hc⟩ := SR.out.introw.at hil
      subst hv
      have hmem : L.getD i 0 ∈ L := by rw [List.getD_eq_getElem?_getD, List.getElem?_eq_getElem hil]; exact List.getElem_mem hil
      have hso := (HL.out.2 _).1 hmem
      have hwf := HX.out _ hso
      obtain ⟨cc, hcc⟩ := Option.isSome_iff_exists.1 hso
      have hsz := HW.out _ _ hcc
      have FD : L.drop i = L.getD i 0 :: L.drop (i + 1) := by
        rw [List.drop_eq_getElem_cons hil]; congr 1; simp [List.getD_eq_getElem?_getD, hil]
      rw [FD] at FR
      obtain ⟨v, m, ho⟩ := SR.out.up1.txOpen
      obtain ⟨ht, q0, q1, q2, q3, qf⟩ := ho.txCells
      have hlook := ho.up2.look1 hwf
      have FT := flush1_turn x.fresh di (L.getD i 0)
      rw [hcc] at hlook
      simp only [Option.getD_some] at hlook
      have F1 : flush1 x.fresh di (L.getD i 0) = if cc.there = true then di.wr (L.getD i 0) cc.kind cc.body else (0, di) := by unfold flush1; rw [hcc]
      generalize L.getD i 0 = id at *
      obtain ⟨ct, ck, cs⟩ := cc
      unfold cV at hlook
      simp only at hlook F1 hsz
      have hsm : cs.size ≤ maxLen := Nat.le_trans hsz (by decide)
      have hpp := PR.out
      have S3 : Hid (Sep B w0 (wr.alloc (.cells #[.bool ct, .int .u8 (ck.toNat : Int), .string cs] 93)) (Blk wr.heap.size (.cells #[.bool ct, .int .u8 (ck.toNat : Int), .string cs] 93) :: RowR 3 (.slice (some ⟨r, o, none⟩) L.length ca) (L.map (Value.int .i64)) :: Tx t f x :: File f b di :: l)) := SR.out.addBlk _
      clear ho hmem hso hwf hcc FD SR hsz
      cases ct with
      | false =>
        simp only [Bool.false_eq_true, if_false] at F1
        have FR2 : Hid (flushL x.fresh (L.drop (i + 1)) di = R) := by
          have := FR.out
          rw [flushL, F1, if_pos rfl] at this
          exact this
        have S4 : Hid (Sep B w0 (wr.alloc (.cells #[.bool false, .int .u8 (ck.toNat : Int), .string cs] 93)) (RowR 3 (.slice (some ⟨r, o, none⟩) L.length ca) (L.map (Value.int .i64)) :: Tx t f x :: File f b di :: l)) := S3.out.drop
        clear FR F1 FT S3
        go_wp2
        go_roundg (L.length - (i + 1))
        case measure => omega
        case rel => exact ⟨i + 1, di, by go_num, by omega, Nat.le_refl _, S4, FR2, Nat.le_succ_of_le hpp⟩
      | true =>
        simp only [if_true] at F1
        have SD : Hid (Sep B w0 (wr.alloc (.cells #[.bool true, .int .u8 (ck.toNat : Int), .string cs] 93)).drew (Blk wr.heap.size (.cells #[.bool true, .int .u8 (ck.toNat : Int), .string cs] 93) :: RowR 3 (.slice (some ⟨r, o, none⟩) L.length ca) (L.map (Value.int .i64)) :: Tx t f x :: File f b di :: l)) := S3.out.drew
        have CW : Hid _ := write_f T SD.out.up3 id ck cs hsm (by omega)
        have HSS : Hid (∀ u dd, Sep B w0 u (Blk wr.heap.size (.cells #[.bool true, .int .u8 (ck.toNat : Int), .string cs] 93) :: RowR 3 (.slice (some ⟨r, o, none⟩) L.length ca) (L.map (Value.int .i64)) :: Tx t f x :: File f b dd :: l) → u.cell? ⟨t, 0, none⟩ = some (ptr f) ∧ u.cell? ⟨wr.heap.size, 1, none⟩ = some (.int .u8 (ck.toNat : Int)) ∧ u.cell? ⟨wr.heap.size, 2, none⟩ = some (.string cs)) := fun u dd hu => by
          obtain ⟨v9, m9, h9⟩ := hu.up2.txOpen
          have hb := hu.blk
          exact ⟨h9.txCells.2.1, by simp [World.cell?, hb], by simp [World.cell?, hb]⟩
        have k0 := HSS.out _ _ SD.out
        rw [F1] at FT
        have FR1 := FR.out
        rw [flushL, F1] at FR1
        obtain ⟨⟨er, d2⟩, hrd⟩ : ∃ z, di.wr id ck cs = z := ⟨_, rfl⟩
        rw [hrd] at FR1 CW FT
        simp only at FR1 CW FT
        have FRH : Hid _ := FR1
        clear FR FR1 F1 hrd
        by_cases he : er = 0
        · subst he
          have FR2 : Hid (flushL x.fresh (L.drop (i + 1)) d2 = R) := by have := FRH.out; rw [if_pos rfl] at this; exact this
          have PR2 : Hid (d2.pend.length ≤ d.pend.length + (i + 1)) := by have := FT.2; show _ ≤ _; omega
          clear FRH FT
          go_wp2_with fail
          go_region_held3 (fun w' => w'.cell? ⟨t, 0, none⟩ = some (ptr f) ∧ w'.cell? ⟨wr.heap.size, 1, none⟩ = some (.int .u8 (ck.toNat : Int)) ∧ w'.cell? ⟨wr.heap.size, 2, none⟩ = some (.string cs)) (first | assumption | exact k0) ((go_at_call 33; refine Calls.mono CW.out ?_; rintro e w4 ⟨rfl, s4⟩; have s5 := s4.dn3; have hS5 := HSS.out _ _ s5; have S5 : Hid (Sep B w0 w4 (Blk wr.heap.size (.cells #[.bool true, .int .u8 (ck.toNat : Int), .string cs] 93) :: RowR 3 (.slice (some ⟨r, o, none⟩) L.length ca) (L.map (Value.int .i64)) :: Tx t f x :: File f b d2 :: l)) := s5; clear s4 s5))
          have S4 : Hid (Sep B w0 w4 (RowR 3 (.slice (some ⟨r, o, none⟩) L.length ca) (L.map (Value.int .i64)) :: Tx t f x :: File f b d2 :: l)) := S5.out.drop
          clear CW S5 S3 SD HSS k0
          go_wp2
          go_roundg (L.length - (i + 1))
          case measure => omega
          case rel => exact ⟨i + 1, d2, by go_num, by omega, Nat.le_refl _, S4, FR2, PR2⟩
        · have heb : (er == 0) = false := beq_eq_false_iff_ne.2 he
          have FR2 : Hid ((er, d2) = R) := by have := FRH.out; rw [if_neg he] at this; exact this
          clear FRH FT
          go_wp2_with fail
          go_region_held3 (fun w' => w'.cell? ⟨t, 0, none⟩ = some (ptr f) ∧ w'.cell? ⟨wr.heap.size, 1, none⟩ = some (.int .u8 (ck.toNat : Int)) ∧ w'.cell? ⟨wr.heap.size, 2, none⟩ = some (.string cs)) (first | assumption | exact k0) ((go_at_call 33; refine Calls.mono CW.out ?_; rintro e w4 ⟨rfl, s4⟩; have s5 := s4.dn3; have hS5 := HSS.out _ _ s5; have S5 : Hid (Sep B w0 w4 (Blk wr.heap.size (.cells #[.bool true, .int .u8 (ck.toNat : Int), .string cs] 93) :: RowR 3 (.slice (some ⟨r, o, none⟩) L.length ca) (L.map (Value.int .i64)) :: Tx t f x :: File f b d2 :: l)) := s5; clear s4 s5))
          have S4 : Hid (Sep B w0 w4 (Tx t f x :: File f b d2 :: l)) := S5.out.drop.drop
          clear CW S5 S3 SD HSS k0
          go_wp2
          go_ret
          exact ⟨L, HL.out, hlen, (by rw [HR.out, ← FR2.out]; rfl), by rw [HR.out, ← FR2.out]; exact S4.out⟩
    · have hilz : ¬ (i : Int) < (L.length : Int) := by omega
      obtain rfl : i = L.length := by omega
      have FR2 : Hid (di.sync = R) := by have := FR.out; rw [List.drop_length, flushL] at this; exact this
      have hpp := PR.out
      have CS : Hid _ := sync_f SR.out.up2 (by omega)
      obtain ⟨v, m, ho⟩ := SR.out.up1.txOpen
      obtain ⟨ht, q0, q1, q2, q3, qf⟩ := ho.txCells
      rw [FR2.out] at CS
      clear ho FR PR SR
      go_wp2_with fail
      refine Calls.mono CS.out ?_
      rintro e w4 ⟨rfl, s4⟩
      have S4 : Hid (Sep B w0 w4 (Tx t f x :: File f b R.2 :: l)) := s4.dn2.drop
      clear CS s4
      go_wp2
      go_ret
      exact ⟨L, HL.out, hlen, (by rw [HR.out]; rfl), by rw [HR.out]; exact S4.out⟩
end

end Go.Proofs.YtnngfkjbbedkpaaGreatDoor

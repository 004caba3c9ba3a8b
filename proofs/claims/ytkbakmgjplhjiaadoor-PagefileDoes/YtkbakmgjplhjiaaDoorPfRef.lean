/-
  The document's file (rootstockref06), said of a reference's disk and the block that names it.
-/
import Derived.Test.YtkbakmgjplhjiaaDoorPf
import Derived.Test.YtkbakmgjplhjiaaDoorRefApi
import Derived.Test.YtkbakmgjplhjiaaDoorPgRef
namespace Go.Proofs.YtkbakmgjplhjiaaDoor
open Go.RowKit
set_option linter.unusedVariables false

def rfileO (c : Nat) : Obj := .cells #[ptr c] 32 (0, 0)
/-- The document's file. -/
def RFile (g c : Nat) (d : Dk) : Res := Both (RefD c d) (Blk g (rfileO c))

section
variable {B : Nat} {w0 w w' : World} {g c : Nat} {d d' : Dk} {l : List Res}
theorem Sep.rpart (h : Sep B w0 w (RFile g c d :: l)) : Sep B w0 w (RefD c d :: Blk g (rfileO c) :: l) := h.map fun _ => Hp.part (good_ref _ _) (good_blk _ _)
theorem Sep.rcell (h : Sep B w0 w (RFile g c d :: l)) : w.cell? ⟨g, 0, none⟩ = some (ptr c) ∧ g < w.heap.size := by
  have hb := h.rpart.up1.blk
  exact ⟨by simp [World.cell?, hb, rfileO], (Array.getElem?_eq_some_iff.1 hb).1⟩
theorem Sep.rsure (h : Sep B w0 w (RFile g c d :: l)) : ∃ ao cp, w.cell? ⟨c, 0, none⟩ = some (.slice ao d.sure.length cp) ∧ c < w.heap.size := by
  obtain ⟨sv, wv, hR⟩ := h.rpart.ref
  obtain ⟨ao, cp, es⟩ := hR.sv_slice
  exact ⟨ao, cp, by rw [hR.c0, es], hR.bl⟩
theorem Sep.rwait (h : Sep B w0 w (RFile g c d :: l)) : ∃ ao cp, w.cell? ⟨c, 1, none⟩ = some (.slice ao d.pend.length cp) ∧ c < w.heap.size := by
  obtain ⟨sv, wv, hR⟩ := h.rpart.ref
  obtain ⟨ao, cp, es⟩ := hR.wv_slice
  exact ⟨ao, cp, by rw [hR.c1, es], hR.bl⟩
theorem Sep.rok (h : Sep B w0 w (RFile g c d :: l)) : d.Ok := by
  obtain ⟨sv, wv, hR⟩ := h.rpart.ref
  exact hR.ok

set_option maxRecDepth 100000 in
set_option maxHeartbeats 1000000 in
theorem read_rf (h : Sep B w0 w (RFile g c d :: l)) (id : Int) (kind : UInt8) (hi : id ≤ 9223372036854775807) (hl : d.pend.length < 100000) :
    Calls Tryd.prog 12 #[ptr g, .int .i64 id, .int .u8 (kind.toNat : Int)] w fun e w' => e = .returned (.tuple #[.string (d.rd id kind).1.1, .int .i64 (d.rd id kind).1.2]) ∧ Sep B w0 w' (RFile g c (d.rd id kind).2 :: l) := by
  have HS : Hid (Sep B w0 w (RFile g c d :: l)) := h
  obtain ⟨c0, hg⟩ := h.rcell
  obtain ⟨ao, cp, c1, hc⟩ := h.rsure
  by_cases hp : hasP d id = false
  · have E : Hid (d.rd id kind = ((ByteArray.empty, 40), d)) := by show _ = _; unfold Dk.rd; rw [hp]; rfl
    rw [E.out]
    clear h
    by_cases h2 : id < 2
    · clear c0 hg c1 hc hp
      go_enter Tryd.func12, Tryd.ntmps12
      go_wp2
      go_ret2
      exact ⟨rfl, HS.out⟩
    · have h3 : (d.sure.length : Int) ≤ id := by unfold hasP at hp; simp at hp; omega
      generalize d.sure.length = L at *
      go_enter Tryd.func12, Tryd.ntmps12
      go_wp2
      go_ret2
      exact ⟨rfl, HS.out⟩
  · have hp1 : hasP d id = true := by simpa using hp
    obtain ⟨h2, h3⟩ := of_decide_eq_true hp1
    have CR0 := read_rs h.rpart id hl
    have hz := Dk.get_size h.rok id
    have E : d.rd id kind = (if (d.get id).1.2 = 0 then openE kind (opn id (d.get id).1.1.data.toList) else (ByteArray.empty, (d.get id).1.2), (d.get id).2) := by unfold Dk.rd; rw [hp1]; rfl
    rw [E]
    clear h hp hp1 E HS
    generalize d.sure.length = L at *
    generalize (d.get id).1.1 = s at *
    generalize (d.get id).1.2 = er at *
    generalize (d.get id).2 = d2 at *
    have CR : Hid _ := CR0
    clear CR0
    by_cases he : er = 0
    · subst he
      rw [if_pos rfl]
      have CO : Hid (∀ u, _) := fun u => refOpen_any id s u hi hz
      unfold rOpnB at CO
      rcases openE_cases kind id s.data.toList with ⟨h1, h2, h3⟩ | ⟨h1, h2, h3⟩ | ⟨h1, h2, h3⟩
      · rw [h2]
        rw [h3] at CO
        rw [show decide ((3 : Int) = 0) = false by decide] at CO
        clear h1 h2 h3
        go_enter Tryd.func12, Tryd.ntmps12
        go_wp2_with fail
        refine Calls.mono CR.out ?_
        rintro e w2 ⟨rfl, s2⟩
        have S2 : Hid (Sep B w0 w2 (RFile g c d2 :: l)) := s2.join
        have C3 : Hid _ := CO.out w2
        clear CR s2 CO
        go_wp2_with fail
        refine Calls.mono C3.out ?_
        rintro e w3 ⟨rfl, b3⟩
        have S3 : Hid (Sep B w0 w3 (RFile g c d2 :: l)) := S2.out.below b3
        clear b3 C3 S2
        go_wp2
        go_ret2
        exact ⟨rfl, S3.out⟩
      · rw [h3]
        have hne := kind_ne h2
        rw [decide_eq_true h1] at CO
        clear h1 h2 h3
        generalize (opn id s.data.toList).1.toNat = K at *
        generalize (opn id s.data.toList).2.1.toArray = bo at *
        go_enter Tryd.func12, Tryd.ntmps12
        go_wp2_with fail
        refine Calls.mono CR.out ?_
        rintro e w2 ⟨rfl, s2⟩
        have S2 : Hid (Sep B w0 w2 (RFile g c d2 :: l)) := s2.join
        have C3 : Hid _ := CO.out w2
        clear CR s2 CO
        go_wp2_with fail
        refine Calls.mono C3.out ?_
        rintro e w3 ⟨rfl, b3⟩
        have S3 : Hid (Sep B w0 w3 (RFile g c d2 :: l)) := S2.out.below b3
        clear b3 C3 S2
        go_wp2
        go_ret2
        exact ⟨rfl, S3.out⟩
      · rw [h3]
        rw [decide_eq_true h1, h2] at CO
        clear h1 h2 h3
        generalize (opn id s.data.toList).2.1.toArray = bo at *
        go_enter Tryd.func12, Tryd.ntmps12
        go_wp2_with fail
        refine Calls.mono CR.out ?_
        rintro e w2 ⟨rfl, s2⟩
        have S2 : Hid (Sep B w0 w2 (RFile g c d2 :: l)) := s2.join
        have C3 : Hid _ := CO.out w2
        clear CR s2 CO
        go_wp2_with fail
        refine Calls.mono C3.out ?_
        rintro e w3 ⟨rfl, b3⟩
        have S3 : Hid (Sep B w0 w3 (RFile g c d2 :: l)) := S2.out.below b3
        clear b3 C3 S2
        go_wp2
        go_ret2
        exact ⟨rfl, S3.out⟩
    · rw [if_neg he]
      have hne : (er != 0) = true := by rw [bne_iff_ne]; exact he
      clear he
      go_enter Tryd.func12, Tryd.ntmps12
      go_wp2_with fail
      refine Calls.mono CR.out ?_
      rintro e w2 ⟨rfl, s2⟩
      have S2 : Hid (Sep B w0 w2 (RFile g c d2 :: l)) := s2.join
      clear CR s2
      go_wp2
      go_ret2
      exact ⟨rfl, S2.out⟩

set_option maxRecDepth 100000 in
set_option maxHeartbeats 1000000 in
theorem put_rf (h : Sep B w0 w (RFile g c d :: l)) (id : Int) (kind : UInt8) (s : ByteArray) (hi : id ≤ 9223372036854775807) (hs : s.size ≤ maxLen) (hl : d.pend.length < 100000) :
    Calls Tryd.prog 14 #[ptr g, .int .i64 id, .int .u8 (kind.toNat : Int), .string s] w fun e w' => e = .returned (.int .i64 (d.wr id kind s).1) ∧ Sep B w0 w' (RFile g c (d.wr id kind s).2 :: l) := by
  have HS : Hid (Sep B w0 w (RFile g c d :: l)) := h
  obtain ⟨c0, hg⟩ := h.rcell
  obtain ⟨ao, cp, c1, hc⟩ := h.rsure
  by_cases hp : hasP d id = false
  · have E : Hid (d.wr id kind s = (40, d)) := by show _ = _; unfold Dk.wr; rw [hp]; rfl
    rw [E.out]
    clear h
    by_cases h2 : id < 2
    · clear c0 hg c1 hc hp
      go_enter Tryd.func14, Tryd.ntmps14
      go_wp2
      go_ret
      exact ⟨rfl, HS.out⟩
    · have h3 : (d.sure.length : Int) ≤ id := by unfold hasP at hp; simp at hp; omega
      generalize d.sure.length = L at *
      go_enter Tryd.func14, Tryd.ntmps14
      go_wp2
      go_ret
      exact ⟨rfl, HS.out⟩
  · have hp1 : hasP d id = true := by simpa using hp
    obtain ⟨h2, h3⟩ := of_decide_eq_true hp1
    have ES := sealE_page h.rok hp1 (n := s.size)
    have E : d.wr id kind s = if 240 < s.size then (50, d) else d.put id (pageS id kind s) := by unfold Dk.wr; rw [hp1]; rfl
    rw [E]
    have hsm := hs
    unfold maxLen at hsm
    clear h hp hp1 E
    by_cases h4 : 240 < s.size
    · rw [if_pos h4]
      generalize d.sure.length = L at *
      clear ES hl
      go_enter Tryd.func14, Tryd.ntmps14
      go_wp2
      go_ret
      exact ⟨rfl, HS.out⟩
    · rw [if_neg h4]
      have CS0 := refSeal_any id kind s w hi hs
      have e1 : sealS id kind s.data.toList = pageL id.toNat kind s.data.toList := by
        unfold sealS
        rw [show s.data.toList.length = s.size by simp, ES, if_neg h4, if_pos rfl]
      have e2 : rSealB id s.size = true := by unfold rSealB; rw [ES, if_neg h4]; rfl
      rw [e1, e2] at CS0
      have CS : Hid _ := CS0
      have CW : Hid (∀ u, Sep B w0 u (RFile g c d :: l) → Calls Tryd.prog 27 #[ptr c, .int .i64 id, .string (pageS id kind s)] u fun e w' => e = .returned (.int .i64 (d.put id (pageS id kind s)).1) ∧ Sep B w0 w' (RefD c (d.put id (pageS id kind s)).2 :: Blk g (rfileO c) :: l)) := fun u hu => put_rs hu.rpart id (pageS id kind s) (by rw [pageS_size _ _ _ (by omega)]; decide) hl
      unfold pageS at *
      generalize (pageL id.toNat kind s.data.toList).toArray = bo at *
      generalize (d.put id ⟨bo⟩).1 = er at *
      generalize (d.put id ⟨bo⟩).2 = d2 at *
      generalize d.sure.length = L at *
      clear CS0 ES e1 e2
      go_enter Tryd.func14, Tryd.ntmps14
      go_wp2_with fail
      refine Calls.mono CS.out ?_
      rintro e w2 ⟨rfl, b2⟩
      have S2 : Hid (Sep B w0 w2 (RFile g c d :: l)) := HS.out.below b2
      obtain ⟨c2, hg2⟩ := S2.out.rcell
      have C3 : Hid _ := CW.out w2 S2.out
      clear b2 CS CW
      go_wp2_with fail
      refine Calls.mono C3.out ?_
      rintro e w3 ⟨rfl, s3⟩
      have S3 : Hid (Sep B w0 w3 (RFile g c d2 :: l)) := s3.join
      clear C3 s3
      go_wp2
      go_ret
      exact ⟨rfl, S3.out⟩

set_option maxHeartbeats 400000 in
theorem slot_rf (h : Sep B w0 w (RFile g c d :: l)) (i : Int) (hl : d.pend.length < 100000) : Calls Tryd.prog 18 #[ptr g, .int .i64 i] w fun e w' => e = .returned (.tuple #[.string (d.slot i).1.1, .int .i64 (d.slot i).1.2]) ∧ Sep B w0 w' (RFile g c (d.slot i).2 :: l) := by
  obtain ⟨c0, hg⟩ := h.rcell
  have HS : Hid (Sep B w0 w (RFile g c d :: l)) := h
  by_cases hp : slotB i = false
  · have E : Hid (d.slot i = ((ByteArray.empty, 40), d)) := by show _ = _; unfold Dk.slot; rw [hp]; rfl
    rw [E.out]
    have n0 : (i != 0) = true := by rw [bne_iff_ne]; rintro rfl; exact absurd hp (by decide)
    have n1 : (i != 1) = true := by rw [bne_iff_ne]; rintro rfl; exact absurd hp (by decide)
    clear h hp
    go_enter Tryd.func18, Tryd.ntmps18
    go_wp2
    go_ret2
    exact ⟨rfl, HS.out⟩
  · have hp1 : slotB i = true := by simpa using hp
    have E : d.slot i = d.get i := by unfold Dk.slot; rw [hp1]; rfl
    rw [E]
    have CR : Hid _ := read_rs h.rpart i hl
    generalize (d.get i).1.1 = x at *
    generalize (d.get i).1.2 = er at *
    generalize (d.get i).2 = d2 at *
    have h01 : i = 0 ∨ i = 1 := by have := of_decide_eq_true hp1; omega
    clear h hp hp1 E HS
    rcases h01 with rfl | rfl
    all_goals
      go_enter Tryd.func18, Tryd.ntmps18
      go_wp2_with fail
      refine Calls.mono CR.out ?_
      rintro e w2 ⟨rfl, s2⟩
      have S2 : Hid (Sep B w0 w2 (RFile g c d2 :: l)) := s2.join
      clear CR s2
      go_wp2
      go_ret2
      exact ⟨rfl, S2.out⟩

set_option maxHeartbeats 400000 in
theorem putSlot_rf (h : Sep B w0 w (RFile g c d :: l)) (i : Int) (s : ByteArray) (hs : s.size ≤ maxLen) (hl : d.pend.length < 100000) : Calls Tryd.prog 21 #[ptr g, .int .i64 i, .string s] w fun e w' => e = .returned (.int .i64 (d.putSlot i s).1) ∧ Sep B w0 w' (RFile g c (d.putSlot i s).2 :: l) := by
  obtain ⟨c0, hg⟩ := h.rcell
  have HS : Hid (Sep B w0 w (RFile g c d :: l)) := h
  by_cases hp : slotB i = false
  · have E : Hid (d.putSlot i s = (40, d)) := by show _ = _; unfold Dk.putSlot; rw [hp]; rfl
    rw [E.out]
    have n0 : (i != 0) = true := by rw [bne_iff_ne]; rintro rfl; exact absurd hp (by decide)
    have n1 : (i != 1) = true := by rw [bne_iff_ne]; rintro rfl; exact absurd hp (by decide)
    clear h hp
    go_enter Tryd.func21, Tryd.ntmps21
    go_wp2
    go_ret
    exact ⟨rfl, HS.out⟩
  · have hp1 : slotB i = true := by simpa using hp
    have E : d.putSlot i s = d.put i s := by unfold Dk.putSlot; rw [hp1]; rfl
    rw [E]
    have CR : Hid _ := put_rs h.rpart i s hs hl
    generalize (d.put i s).1 = er at *
    generalize (d.put i s).2 = d2 at *
    have h01 : i = 0 ∨ i = 1 := by have := of_decide_eq_true hp1; omega
    clear h hp hp1 E HS
    rcases h01 with rfl | rfl
    all_goals
      go_enter Tryd.func21, Tryd.ntmps21
      go_wp2_with fail
      refine Calls.mono CR.out ?_
      rintro e w2 ⟨rfl, s2⟩
      have S2 : Hid (Sep B w0 w2 (RFile g c d2 :: l)) := s2.join
      clear CR s2
      go_wp2
      go_ret
      exact ⟨rfl, S2.out⟩

/-- The reference's disk's own calls, where a file stands on it. -/
theorem sync_rf (h : Sep B w0 w (RFile g c d :: l)) (hp : d.pend.length < 100000) : Calls Tryd.prog 16 #[ptr c] w fun e w' => e = .returned (.int .i64 d.sync.1) ∧ Sep B w0 w' (RFile g c d.sync.2 :: l) := (sync_rs h.rpart hp).mono fun _ _ h => ⟨h.1, h.2.join⟩
theorem stop_rf (h : Sep B w0 w (RFile g c d :: l)) (n : Int) (hn : n ≤ 9223372036854775807) : Calls Tryd.prog 23 #[ptr c, .int .i64 n] w fun e w' => e = .returned (.tuple #[]) ∧ Sep B w0 w' (RFile g c (d.stop n) :: l) := (stop_rs h.rpart n hn).mono fun _ _ h => ⟨h.1, h.2.join⟩
theorem dput_rf (h : Sep B w0 w (RFile g c d :: l)) (i : Int) (s : ByteArray) (hs : s.size ≤ maxLen) (hp : d.pend.length < 100000) : Calls Tryd.prog 27 #[ptr c, .int .i64 i, .string s] w fun e w' => e = .returned (.int .i64 (d.put i s).1) ∧ Sep B w0 w' (RFile g c (d.put i s).2 :: l) := (put_rs h.rpart i s hs hp).mono fun _ _ h => ⟨h.1, h.2.join⟩

/-- A row of numbers of our own, as one that can be read. -/
theorem introw_of {v : Value} {keep : List Int} (h : Sep B w0 w (RowR 3 v (keep.map (Value.int .i64)) :: l)) : IntRow w v keep := by
  by_cases hk : keep = []
  · subst hk
    obtain ⟨ao, cp, e⟩ := h.shape
    exact ⟨ao, cp, e, fun hne => absurd rfl hne⟩
  · have hpos : 0 < keep.length := List.length_pos_iff.2 hk
    obtain ⟨r, cp, e, _, hr, _, _⟩ := h.cell (j := 0) (by simpa using hpos)
    refine ⟨some ⟨r, 0, none⟩, cp, by rw [e]; simp, fun _ => ⟨r, 0, rfl, hr, fun j hj => ?_⟩⟩
    obtain ⟨r2, cp2, e2, _, _, hc, _⟩ := h.cell (j := j) (by simpa using hj)
    rw [e] at e2
    cases e2
    rw [Nat.zero_add, hc]
    simp [List.getD_eq_getElem?_getD, hj]

/-- A crash that keeps what a row of our own says. -/
theorem crash_rs2 {v : Value} {keep : List Int} (h : Sep B w0 w (RefD c d :: RowR 3 v (keep.map (Value.int .i64)) :: l)) (torn cut : Int) (hp : d.pend.length < 100000) (hk : keep.length < 100000) :
    Calls Tryd.prog 25 #[ptr c, v, .int .i64 torn, .int .i64 cut] w fun e w' => e = .returned (.tuple #[]) ∧ Sep B w0 w' (RefD c (d.crash keep torn cut) :: RowR 3 v (keep.map (Value.int .i64)) :: l) := by
  have hkv := introw_of h.up1
  have apart : ∀ r, v.ownBlock = some r → ∃ sv wv, RMem w c sv wv d ∧ r ≠ c ∧ sv.ownBlock ≠ some r := by
    intro r hr
    obtain ⟨_, _, Y, ⟨_, X, Z, ⟨⟨sv, wv, hM, xb, xs, _⟩, _⟩, ⟨_, X2, Z2, ⟨_, hx2⟩, _, _, hy2⟩, hd, _⟩, _⟩ := h
    have hz : Z r := (hy2 r).2 (.inl ((hx2 r).2 hr))
    exact ⟨sv, wv, hM, (fun e => hd c xb (e ▸ hz)), fun e => hd r (xs r e) hz⟩
  refine Calls.withRes h (good_ref _ _) fun X ha _ => ?_
  obtain ⟨⟨sv, wv, hM, xb, xs, xw⟩, hl⟩ := ha
  refine (crash_r hM v keep hkv torn cut hp hk (fun hne r o n cp e => ?_)).mono ?_
  · obtain ⟨sv2, wv2, hM2, h1, h2⟩ := apart r (by rw [e]; rfl)
    have es : sv = sv2 := Option.some.inj (hM.c0.symm.trans hM2.c0)
    exact ⟨h1, by rw [es]; exact h2⟩
  · rintro e w' ⟨he, ht, hm⟩
    exact ⟨he, ref_of hl xb xs hm (fun k hk => by simp [Value.ownBlock] at hk) (ht.sub (fun k hk => by rcases hk with rfl | hk; exact xb; exact xs k hk))⟩
theorem crash_rf {v : Value} {keep : List Int} (h : Sep B w0 w (RFile g c d :: RowR 3 v (keep.map (Value.int .i64)) :: l)) (torn cut : Int) (hp : d.pend.length < 100000) (hk : keep.length < 100000) :
    Calls Tryd.prog 25 #[ptr c, v, .int .i64 torn, .int .i64 cut] w fun e w' => e = .returned (.tuple #[]) ∧ Sep B w0 w' (RFile g c (d.crash keep torn cut) :: RowR 3 v (keep.map (Value.int .i64)) :: l) :=
  (crash_rs2 (h.rpart.map fun _ h => Hp.under h fun _ => Hp.swap) torn cut hp hk).mono fun _ _ h => ⟨h.1, (h.2.map fun _ h => Hp.under h fun _ => Hp.swap).join⟩
end
end Go.Proofs.YtkbakmgjplhjiaaDoor

/-
  Texts of elder layers, joined: PfPlain, Pf, PfLaw, PfUp.
-/
import Derived.Test.YtnngfkjbbedkpaaGreatDoorBDisk
import Derived.Test.YtnngfkjbbedkpaaGreatDoorBCode
namespace Go.Proofs.YtnngfkjbbedkpaaGreatDoor

/-! PfPlain -/
section
open Go.RowKit

/-- Whether there is a page of that number, or a slot. -/
def hasP (d : Dk) (id : Int) : Bool := decide (2 ≤ id ∧ id < d.sure.length)
def slotB (i : Int) : Bool := decide (0 ≤ i ∧ i < 2)
/-- What Open's answer is to who asks for one kind. -/
def openE (kind : UInt8) (o : UInt8 × List UInt8 × Int) : ByteArray × Int := if o.2.2 = 0 ∧ o.1 = kind then (⟨o.2.1.toArray⟩, 0) else (ByteArray.empty, 3)
def Dk.rd (d : Dk) (id : Int) (kind : UInt8) : (ByteArray × Int) × Dk :=
  if hasP d id then (if (d.get id).1.2 = 0 then openE kind (opn id (d.get id).1.1.data.toList) else (ByteArray.empty, (d.get id).1.2), (d.get id).2) else ((ByteArray.empty, 40), d)
def pageS (id : Int) (kind : UInt8) (b : ByteArray) : ByteArray := ⟨(pageL id.toNat kind b.data.toList).toArray⟩
def Dk.wr (d : Dk) (id : Int) (kind : UInt8) (b : ByteArray) : Int × Dk :=
  if hasP d id then (if 240 < b.size then (50, d) else d.put id (pageS id kind b)) else (40, d)
def Dk.slot (d : Dk) (i : Int) : (ByteArray × Int) × Dk := if slotB i then d.get i else ((ByteArray.empty, 40), d)
def Dk.putSlot (d : Dk) (i : Int) (s : ByteArray) : Int × Dk := if slotB i then d.put i s else (40, d)
def Dk.room (d : Dk) : Nat := max d.sure.length 2

theorem pageS_size (id : Int) (kind : UInt8) (b : ByteArray) (h : b.size ≤ 240) : (pageS id kind b).size = 256 := by
  unfold pageS; rw [ba_size, pageL_length _ _ _ (by simpa using h)]
theorem sealE_page {d : Dk} (ok : d.Ok) {id : Int} (h : hasP d id = true) {n : Nat} : sealE id n = if 240 < n then 50 else 0 := by
  have h1 := of_decide_eq_true h
  have h2 := ok.len
  unfold sealE
  split
  · rfl
  · rw [if_pos ((putB4 id).2 (by omega))]
theorem Dk.get_sure (d : Dk) (i : Int) : (d.get i).2.sure = d.sure ∧ (d.get i).2.pend = d.pend := by
  unfold Dk.get; split
  · exact ⟨rfl, rfl⟩
  · split <;> exact ⟨rfl, rfl⟩
theorem Dk.rd_same (d : Dk) (id : Int) (kind : UInt8) : (d.rd id kind).2.sure = d.sure ∧ (d.rd id kind).2.pend = d.pend := by
  unfold Dk.rd; split
  · exact d.get_sure id
  · exact ⟨rfl, rfl⟩
theorem Dk.slot_same (d : Dk) (i : Int) : (d.slot i).2.sure = d.sure ∧ (d.slot i).2.pend = d.pend := by
  unfold Dk.slot; split
  · exact d.get_sure i
  · exact ⟨rfl, rfl⟩
theorem Dk.wr_sure (d : Dk) (id : Int) (kind : UInt8) (b : ByteArray) : (d.wr id kind b).2.sure = d.sure ∧ (d.wr id kind b).2.pend.length ≤ d.pend.length + 1 := by
  unfold Dk.wr; split
  · split
    · exact ⟨rfl, Nat.le_succ _⟩
    · exact d.put_sure _ _
  · exact ⟨rfl, Nat.le_succ _⟩
theorem Dk.putSlot_sure (d : Dk) (i : Int) (s : ByteArray) : (d.putSlot i s).2.sure = d.sure ∧ (d.putSlot i s).2.pend.length ≤ d.pend.length + 1 := by
  unfold Dk.putSlot; split
  · exact d.put_sure _ _
  · exact ⟨rfl, Nat.le_succ _⟩

/-- A text with 256 bytes. -/
def fullS (s : ByteArray) : ByteArray := (⟨(s.data.toList ++ List.replicate (256 - s.size) 0).toArray⟩ : ByteArray).extract 0 256
theorem fullS_size (s : ByteArray) : (fullS s).size = 256 := by
  unfold fullS
  rw [ByteArray.size_extract, ba_size, List.length_append, List.length_replicate]
  have : s.data.toList.length = s.size := by simp
  omega
end

/-! Pf -/
section
open Go.RowKit
set_option linter.unusedVariables false

def fileO (b : Nat) : Obj := .cells #[ptr b] 87 (0, 0)
/-- A file. -/
def File (f b : Nat) (d : Dk) : Res := Both (Disk b d) (Blk f (fileO b))
/-- The table is there, whatever comes. -/
def Tabs (B : Nat) (w0 : World) : Prop := ∀ u, Below B w0 u → Tab u
theorem tabs_of {w : World} (h : Tab w) : Tabs w.heap.size w := fun _ hu => h.below hu

section
variable {B : Nat} {w0 w w' : World} {f b : Nat} {d d' : Dk} {l : List Res}
theorem Sep.part (h : Sep B w0 w (File f b d :: l)) : Sep B w0 w (Disk b d :: Blk f (fileO b) :: l) := h.map fun _ => Hp.part (good_disk _ _) (good_blk _ _)
theorem Sep.fcell (h : Sep B w0 w (File f b d :: l)) : w.cell? ⟨f, 0, none⟩ = some (ptr b) ∧ f < w.heap.size := by
  have hb := h.part.up1.blk
  exact ⟨by simp [World.cell?, hb, fileO], (Array.getElem?_eq_some_iff.1 hb).1⟩
theorem Sep.fok (h : Sep B w0 w (File f b d :: l)) : d.Ok := h.part.ok

theorem nowTo_size (ok : d.Ok) {i : Nat} (hi : i < d.sure.length) : ∀ n, n ≤ d.pend.length → (nowTo d.sure d.pend i n).size = 256
  | 0, _ => sAt_size ok.sz hi
  | n + 1, hn => by
    rw [nowTo_succ]
    split
    · exact (wAt_ok ok (by omega)).2
    · exact nowTo_size ok hi n (by omega)
theorem Dk.get_size (ok : d.Ok) (i : Int) : (d.get i).1.1.size ≤ maxLen := by
  unfold Dk.get
  split
  · unfold maxLen; simp
  · split
    · rename_i h
      have := of_decide_eq_true h
      show (d.now i.toNat).size ≤ maxLen
      unfold Dk.now
      rw [nowTo_size ok (by omega) _ (Nat.le_refl _)]
      decide
    · unfold maxLen; simp

set_option maxHeartbeats 400000 in
theorem new_f (h : Sep B w0 w (Disk b d :: l)) : Calls Tryz.prog 9 #[ptr b] w fun e w' => ∃ f, e = .returned (ptr f) ∧ Sep B w0 w' (File f b d :: l) := by
  have S1 : Hid (Sep B w0 (w.alloc (fileO b)) (File w.heap.size b d :: l)) := (h.addBlk (fileO b)).up1.join
  unfold fileO at S1
  clear h
  go_enter Tryz.func9, Tryz.ntmps9
  go_wp2
  go_ret
  exact ⟨_, rfl, S1.out⟩

set_option maxHeartbeats 400000 in
theorem new_fnil (h : Sep B w0 w l) : Calls Tryz.prog 9 #[.pointer none] w fun e w' => ∃ f, e = .returned (ptr f) ∧ ∃ b, Sep B w0 w' (File f b (Dk.new 0) :: l) := by
  have C : Hid _ := new_s 0 h
  clear h
  go_enter Tryz.func9, Tryz.ntmps9
  go_wp2_with fail
  refine Calls.mono C.out ?_
  rintro e w1 ⟨b, rfl, s1⟩
  have S1 : Hid (Sep B w0 (w1.alloc (fileO b)) (File w1.heap.size b (Dk.new 0) :: l)) := (s1.addBlk (fileO b)).up1.join
  unfold fileO at S1
  clear s1 C
  go_wp2
  go_ret
  exact ⟨_, rfl, b, S1.out⟩

set_option maxHeartbeats 400000 in
theorem room_f (h : Sep B w0 w (File f b d :: l)) : Calls Tryz.prog 40 #[ptr f] w fun e w' => e = .returned (.int .i64 d.room) ∧ w = w' := by
  obtain ⟨c0, hf⟩ := h.fcell
  have C : Hid _ := sectors_s h.part
  have hl : Hid (d.sure.length ≤ 16384) := h.fok.len
  clear h
  go_enter Tryz.func40, Tryz.ntmps40
  go_wp2_with fail
  refine Calls.mono C.out ?_
  rintro e w1 ⟨rfl, rfl⟩
  clear C
  go_wp2
  go_ret
  exact ⟨ret_int (by unfold Dk.room; omega), rfl⟩

set_option maxHeartbeats 400000 in
theorem hasPage_f (h : Sep B w0 w (File f b d :: l)) (id : Int) : Calls Tryz.prog 58 #[ptr f, .int .i64 id] w fun e w' => e = .returned (.bool (hasP d id)) ∧ w = w' := by
  have C : Hid _ := room_f h
  clear h
  by_cases h2 : 2 ≤ id
  · have E : Hid (decide (id < (d.room : Int)) = hasP d id) := by
      show _ = _
      unfold hasP Dk.room
      rw [decide_eq_decide]
      omega
    generalize hasP d id = y at E
    generalize d.room = R at *
    go_enter Tryz.func58, Tryz.ntmps58
    go_wp2_with fail
    refine Calls.mono C.out ?_
    rintro e w1 ⟨rfl, rfl⟩
    clear C
    go_wp2
    go_ret
    exact ⟨ret_bool E.out, rfl⟩
  · have E : Hid (hasP d id = false) := by
      show _ = _
      unfold hasP
      rw [decide_eq_false_iff_not]
      omega
    go_enter Tryz.func58, Tryz.ntmps58
    go_wp2
    go_ret
    exact ⟨ret_bool E.out.symm, rfl⟩

theorem openE_cases (kind : UInt8) (id : Int) (s : List UInt8) : ((opn id s).2.2 ≠ 0 ∧ openE kind (opn id s) = (ByteArray.empty, 3) ∧ opn id s = (0, [], 3)) ∨
    ((opn id s).2.2 = 0 ∧ (opn id s).1 ≠ kind ∧ openE kind (opn id s) = (ByteArray.empty, 3)) ∨ ((opn id s).2.2 = 0 ∧ (opn id s).1 = kind ∧ openE kind (opn id s) = (⟨(opn id s).2.1.toArray⟩, 0)) := by
  unfold openE
  by_cases h : (opn id s).2.2 = 0
  · by_cases hk : (opn id s).1 = kind
    · exact .inr (.inr ⟨h, hk, by rw [if_pos ⟨h, hk⟩]⟩)
    · exact .inr (.inl ⟨h, hk, by rw [if_neg (fun c => hk c.2)]⟩)
  · exact .inl ⟨h, by rw [if_neg (fun c => h c.1)], opn_nay h⟩

theorem kind_ne {a b : UInt8} (h : a ≠ b) : ((a.toNat : Int) == (b.toNat : Int)) = false := by
  rw [beq_eq_false_iff_ne]
  intro e
  exact h (UInt8.toNat_inj.1 (by omega))

set_option maxRecDepth 100000 in
set_option maxHeartbeats 1000000 in
theorem read_f (T : Tabs B w0) (h : Sep B w0 w (File f b d :: l)) (id : Int) (kind : UInt8) :
    Calls Tryz.prog 36 #[ptr f, .int .i64 id, .int .u8 (kind.toNat : Int)] w fun e w' => e = .returned (.tuple #[.string (d.rd id kind).1.1, .int .i64 (d.rd id kind).1.2]) ∧ Sep B w0 w' (File f b (d.rd id kind).2 :: l) := by
  have CH0 := hasPage_f h id
  have HS : Hid (Sep B w0 w (File f b d :: l)) := h
  obtain ⟨c0, hf⟩ := h.fcell
  cases hp : hasP d id with
  | false =>
    rw [hp] at CH0
    have CH : Hid _ := CH0
    have E : Hid (d.rd id kind = ((ByteArray.empty, 40), d)) := by show _ = _; unfold Dk.rd; rw [hp]; rfl
    rw [E.out]
    clear h CH0 hp
    go_enter Tryz.func36, Tryz.ntmps36
    go_wp2_with fail
    refine Calls.mono CH.out ?_
    rintro e w1 ⟨rfl, rfl⟩
    clear CH
    go_wp2
    go_ret2
    exact ⟨rfl, HS.out⟩
  | true =>
    rw [hp] at CH0
    have CH : Hid _ := CH0
    have CR0 := read_s h.part id
    have hz := Dk.get_size h.fok id
    have E : d.rd id kind = (if (d.get id).1.2 = 0 then openE kind (opn id (d.get id).1.1.data.toList) else (ByteArray.empty, (d.get id).1.2), (d.get id).2) := by unfold Dk.rd; rw [hp]; rfl
    rw [E]
    clear h CH0 hp E HS
    generalize (d.get id).1.1 = s at *
    generalize (d.get id).1.2 = er at *
    generalize (d.get id).2 = d2 at *
    have CR : Hid _ := CR0
    clear CR0
    by_cases he : er = 0
    · subst he
      rw [if_pos rfl]
      have CO : Hid (∀ u, Tab u → _) := fun u hu => open_any id s u hu hz
      rcases openE_cases kind id s.data.toList with ⟨h1, h2, h3⟩ | ⟨h1, h2, h3⟩ | ⟨h1, h2, h3⟩
      · rw [h2]
        rw [h3] at CO
        clear h1 h2 h3
        go_enter Tryz.func36, Tryz.ntmps36
        go_wp2_with fail
        refine Calls.mono CH.out ?_
        rintro e w1 ⟨rfl, rfl⟩
        clear CH
        go_wp2_with fail
        refine Calls.mono CR.out ?_
        rintro e w2 ⟨rfl, s2⟩
        have S2 : Hid (Sep B w0 w2 (File f b d2 :: l)) := s2.join
        have C3 : Hid _ := CO.out w2 (T w2 s2.bel)
        clear CR s2 CO
        go_wp2_with fail
        refine Calls.mono C3.out ?_
        rintro e w3 ⟨rfl, b3⟩
        have S3 : Hid (Sep B w0 w3 (File f b d2 :: l)) := S2.out.below b3
        clear b3 C3 S2
        go_wp2
        go_ret2
        exact ⟨rfl, S3.out⟩
      · rw [h3]
        have hne := kind_ne h2
        rw [h1] at CO
        clear h1 h2 h3
        generalize (opn id s.data.toList).1.toNat = K at *
        generalize (opn id s.data.toList).2.1.toArray = bo at *
        go_enter Tryz.func36, Tryz.ntmps36
        go_wp2_with fail
        refine Calls.mono CH.out ?_
        rintro e w1 ⟨rfl, rfl⟩
        clear CH
        go_wp2_with fail
        refine Calls.mono CR.out ?_
        rintro e w2 ⟨rfl, s2⟩
        have S2 : Hid (Sep B w0 w2 (File f b d2 :: l)) := s2.join
        have C3 : Hid _ := CO.out w2 (T w2 s2.bel)
        clear CR s2 CO
        go_wp2_with fail
        refine Calls.mono C3.out ?_
        rintro e w3 ⟨rfl, b3⟩
        have S3 : Hid (Sep B w0 w3 (File f b d2 :: l)) := S2.out.below b3
        clear b3 C3 S2
        go_wp2
        go_ret2
        exact ⟨rfl, S3.out⟩
      · rw [h3]
        rw [h1, h2] at CO
        clear h1 h2 h3
        generalize (opn id s.data.toList).2.1.toArray = bo at *
        go_enter Tryz.func36, Tryz.ntmps36
        go_wp2_with fail
        refine Calls.mono CH.out ?_
        rintro e w1 ⟨rfl, rfl⟩
        clear CH
        go_wp2_with fail
        refine Calls.mono CR.out ?_
        rintro e w2 ⟨rfl, s2⟩
        have S2 : Hid (Sep B w0 w2 (File f b d2 :: l)) := s2.join
        have C3 : Hid _ := CO.out w2 (T w2 s2.bel)
        clear CR s2 CO
        go_wp2_with fail
        refine Calls.mono C3.out ?_
        rintro e w3 ⟨rfl, b3⟩
        have S3 : Hid (Sep B w0 w3 (File f b d2 :: l)) := S2.out.below b3
        clear b3 C3 S2
        go_wp2
        go_ret2
        exact ⟨rfl, S3.out⟩
    · rw [if_neg he]
      have hne : (er != 0) = true := by rw [bne_iff_ne]; exact he
      clear he
      go_enter Tryz.func36, Tryz.ntmps36
      go_wp2_with fail
      refine Calls.mono CH.out ?_
      rintro e w1 ⟨rfl, rfl⟩
      clear CH
      go_wp2_with fail
      refine Calls.mono CR.out ?_
      rintro e w2 ⟨rfl, s2⟩
      have S2 : Hid (Sep B w0 w2 (File f b d2 :: l)) := s2.join
      clear CR s2
      go_wp2
      go_ret2
      exact ⟨rfl, S2.out⟩

set_option maxRecDepth 100000 in
set_option maxHeartbeats 1000000 in
theorem write_f (T : Tabs B w0) (h : Sep B w0 w (File f b d :: l)) (id : Int) (kind : UInt8) (s : ByteArray) (hs : s.size ≤ maxLen) (hl : d.pend.length < 100000) :
    Calls Tryz.prog 33 #[ptr f, .int .i64 id, .int .u8 (kind.toNat : Int), .string s] w fun e w' => e = .returned (.int .i64 (d.wr id kind s).1) ∧ Sep B w0 w' (File f b (d.wr id kind s).2 :: l) := by
  have CH0 := hasPage_f h id
  have HS : Hid (Sep B w0 w (File f b d :: l)) := h
  obtain ⟨c0, hf⟩ := h.fcell
  cases hp : hasP d id with
  | false =>
    rw [hp] at CH0
    have CH : Hid _ := CH0
    have E : Hid (d.wr id kind s = (40, d)) := by show _ = _; unfold Dk.wr; rw [hp]; rfl
    rw [E.out]
    clear h CH0 hp
    go_enter Tryz.func33, Tryz.ntmps33
    go_wp2_with fail
    refine Calls.mono CH.out ?_
    rintro e w1 ⟨rfl, rfl⟩
    clear CH
    go_wp2
    go_ret
    exact ⟨rfl, HS.out⟩
  | true =>
    have ES := sealE_page h.fok hp (n := s.size)
    rw [hp] at CH0
    have CH : Hid _ := CH0
    have CS0 := seal_any id kind s w (T w h.bel) hs
    have E : d.wr id kind s = if 240 < s.size then (50, d) else d.put id (pageS id kind s) := by unfold Dk.wr; rw [hp]; rfl
    rw [E]
    rw [ES] at CS0
    clear h CH0 hp E
    by_cases h2 : 240 < s.size
    · rw [if_pos h2]
      rw [if_pos h2] at CS0
      have CS : Hid _ := CS0
      generalize (sealS id kind s.data.toList).toArray = bo at *
      clear CS0 ES
      go_enter Tryz.func33, Tryz.ntmps33
      go_wp2_with fail
      refine Calls.mono CH.out ?_
      rintro e w1 ⟨rfl, rfl⟩
      clear CH
      go_wp2_with fail
      refine Calls.mono CS.out ?_
      rintro e w2 ⟨rfl, b2⟩
      have S2 : Hid (Sep B w0 w2 (File f b d :: l)) := HS.out.below b2
      clear b2 CS
      go_wp2
      go_ret
      exact ⟨rfl, S2.out⟩
    · rw [if_neg h2]
      have e1 : sealS id kind s.data.toList = pageL id.toNat kind s.data.toList := by
        unfold sealS
        rw [show s.data.toList.length = s.size by simp, ES, if_neg h2, if_pos rfl]
      rw [if_neg h2, e1] at CS0
      have CS : Hid _ := CS0
      have CW : Hid (∀ u, Sep B w0 u (File f b d :: l) → Calls Tryz.prog 60 #[ptr b, .int .i64 id, .string (pageS id kind s)] u fun e w' => e = .returned (.int .i64 (d.put id (pageS id kind s)).1) ∧ Sep B w0 w' (Disk b (d.put id (pageS id kind s)).2 :: Blk f (fileO b) :: l)) := fun u hu => write_s hu.part id (pageS id kind s) (by rw [pageS_size _ _ _ (by omega)]; decide) hl
      unfold pageS at *
      generalize (pageL id.toNat kind s.data.toList).toArray = bo at *
      generalize (d.put id ⟨bo⟩).1 = er at *
      generalize (d.put id ⟨bo⟩).2 = d2 at *
      clear CS0 ES e1
      go_enter Tryz.func33, Tryz.ntmps33
      go_wp2_with fail
      refine Calls.mono CH.out ?_
      rintro e w1 ⟨rfl, rfl⟩
      clear CH
      go_wp2_with fail
      refine Calls.mono CS.out ?_
      rintro e w2 ⟨rfl, b2⟩
      have S2 : Hid (Sep B w0 w2 (File f b d :: l)) := HS.out.below b2
      obtain ⟨c2, hf2⟩ := S2.out.fcell
      have C3 : Hid _ := CW.out w2 S2.out
      clear b2 CS CW
      go_wp2_with fail
      refine Calls.mono C3.out ?_
      rintro e w3 ⟨rfl, s3⟩
      have S3 : Hid (Sep B w0 w3 (File f b d2 :: l)) := s3.join
      clear C3 s3
      go_wp2
      go_ret
      exact ⟨rfl, S3.out⟩

set_option maxHeartbeats 400000 in
theorem sync_f (h : Sep B w0 w (File f b d :: l)) (hl : d.pend.length < 100000) : Calls Tryz.prog 50 #[ptr f] w fun e w' => e = .returned (.int .i64 d.sync.1) ∧ Sep B w0 w' (File f b d.sync.2 :: l) := by
  obtain ⟨c0, hf⟩ := h.fcell
  have C : Hid _ := sync_s h.part hl
  generalize d.sync.1 = er at *
  generalize d.sync.2 = d2 at *
  clear h
  go_enter Tryz.func50, Tryz.ntmps50
  go_wp2_with fail
  refine Calls.mono C.out ?_
  rintro e w1 ⟨rfl, s1⟩
  have S1 : Hid (Sep B w0 w1 (File f b d2 :: l)) := s1.join
  clear C s1
  go_wp2
  go_ret
  exact ⟨rfl, S1.out⟩

/-- The disk's own calls, where a file stands on it. -/
theorem break_f (h : Sep B w0 w (File f b d :: l)) (n : Int) (hn : n ≤ 9223372036854775807) : Calls Tryz.prog 21 #[ptr b, .int .i64 n] w fun e w' => e = .returned (.tuple #[]) ∧ Sep B w0 w' (File f b (d.stop n) :: l) := (break_s h.part n hn).mono fun _ _ h => ⟨h.1, h.2.join⟩
theorem dwrite_f (h : Sep B w0 w (File f b d :: l)) (i : Int) (s : ByteArray) (hs : s.size ≤ maxLen) (hp : d.pend.length < 100000) : Calls Tryz.prog 60 #[ptr b, .int .i64 i, .string s] w fun e w' => e = .returned (.int .i64 (d.put i s).1) ∧ Sep B w0 w' (File f b (d.put i s).2 :: l) := (write_s h.part i s hs hp).mono fun _ _ h => ⟨h.1, h.2.join⟩
end
end

/-! PfLaw -/
section
open Go.RowKit
set_option linter.unusedVariables false

/-- A text with n noughts behind it. -/
def zs (s : ByteArray) (n : Nat) : ByteArray := ⟨(s.data.toList ++ List.replicate n 0).toArray⟩
theorem zs_size (s : ByteArray) (n : Nat) : (zs s n).size = s.size + n := by
  unfold zs; rw [ba_size, List.length_append, List.length_replicate]; simp
theorem zs_zero (s : ByteArray) : zs s 0 = s := by
  unfold zs
  apply ByteArray.ext
  simp
theorem zs_succ (s : ByteArray) (n : Nat) : zs s n ++ ⟨#[0]⟩ = zs s (n + 1) := by
  apply ByteArray.ext
  rw [ByteArray.data_append]
  unfold zs
  simp [List.replicate_succ']
theorem zs_full (s : ByteArray) (n : Nat) (h : 256 ≤ s.size + n) (hn : n = 0 ∨ s.size + n = 256) : (zs s n).extract 0 256 = fullS s := by
  have : n = 256 - s.size := by omega
  subst this
  rfl

def ab : ByteArray := ⟨#[97, 98]⟩
def ff0 : Dk := Dk.new 4
def ff1 : Int × Dk := ff0.wr 1 1 ab
def ff2 : Int × Dk := ff1.2.wr 3 1 ab
def ff3 : (ByteArray × Int) × Dk := ff2.2.rd 3 1
def ff4 : (ByteArray × Int) × Dk := ff3.2.rd 3 2
def ff5 : (ByteArray × Int) × Dk := ff4.2.rd 2 1
theorem ff_1 : ff1.1 = 40 ∧ ff2.1 = 0 ∧ ff0.pend.length = 0 ∧ ff1.2.pend.length = 0 ∧ ff5.2.room = 4 := by decide +kernel
theorem ff_3 : ff3.1.1 = ab ∧ ff3.1.2 = 0 ∧ ff4.1.2 = 3 ∧ ff5.1.2 = 3 := by decide +kernel

/-- One act. -/
structure A1 where
  k : Int
  i : Int
  kd : UInt8
  s : ByteArray
def a0 : A1 := ⟨0, 0, 0, ByteArray.empty⟩

/-- A slice of acts that can be read. -/
structure ActRow (w : World) (v : Value) (l : List A1) : Prop where
  row : ∃ ao cap, v = .slice ao l.length cap ∧ (l ≠ [] → ∃ r o, ao = some ⟨r, o, none⟩ ∧ r < w.heap.size ∧ ∀ j, j < l.length →
    w.cell? ⟨r, o + j * 4, none⟩ = some (.int .i64 (l.getD j a0).k) ∧ w.cell? ⟨r, o + j * 4 + 1, none⟩ = some (.int .i64 (l.getD j a0).i) ∧ w.cell? ⟨r, o + j * 4 + 2, none⟩ = some (.int .u8 ((l.getD j a0).kd.toNat : Int)) ∧
    w.cell? ⟨r, o + j * 4 + 3, none⟩ = some (.string (l.getD j a0).s))
  ok : ∀ a ∈ l, a.s.size ≤ maxLen ∧ a.i ≤ 9223372036854775807

theorem ActRow.below {w w' : World} {v : Value} {l : List A1} {B : Nat} (h : ActRow w v l) (hb : Below B w w') (hB : w.heap.size ≤ B) : ActRow w' v l := by
  obtain ⟨⟨ao, cap, e, h1⟩, h2⟩ := h
  refine ⟨⟨ao, cap, e, fun hne => ?_⟩, h2⟩
  obtain ⟨r, o, e2, hr, hc⟩ := h1 hne
  have k : ∀ j, w'.cell? ⟨r, j, none⟩ = w.cell? ⟨r, j, none⟩ := fun j => World.cell?_of_block (a := ⟨r, j, none⟩) (hb.block r (by omega))
  refine ⟨r, o, e2, Nat.lt_of_lt_of_le hr hb.size, fun j hj => ?_⟩
  rw [k, k, k, k]
  exact hc j hj

/-- What is read of one act, in a later world. -/
theorem ActRow.at {w wr : World} {ao : Option Addr} {n cap : Nat} {l : List A1} {B : Nat} (h : ActRow w (.slice ao n cap) l) (hb : Below B w wr) (hB : w.heap.size ≤ B) {j : Nat} (hj : j < l.length) :
    ∃ r o, ao = some ⟨r, o, none⟩ ∧ r < wr.heap.size ∧ wr.cell? ⟨r, o + j * 4, none⟩ = some (.int .i64 (l.getD j a0).k) ∧ wr.cell? ⟨r, o + j * 4 + 1, none⟩ = some (.int .i64 (l.getD j a0).i) ∧ wr.cell? ⟨r, o + j * 4 + 2, none⟩ = some (.int .u8 ((l.getD j a0).kd.toNat : Int)) ∧
    wr.cell? ⟨r, o + j * 4 + 3, none⟩ = some (.string (l.getD j a0).s) ∧ (l.getD j a0).s.size ≤ maxLen ∧ (l.getD j a0).i ≤ 9223372036854775807 := by
  obtain ⟨⟨ao', cap', e, h1⟩, h2⟩ := h.below hb hB
  cases e
  obtain ⟨r, o, e2, hr, hc⟩ := h1 (by intro e; rw [e] at hj; simp at hj)
  obtain ⟨x0, x1, x2, x3⟩ := hc j hj
  have hm : l.getD j a0 ∈ l := by rw [List.getD_eq_getElem?_getD, List.getElem?_eq_getElem hj]; exact List.getElem_mem hj
  exact ⟨r, o, e2, hr, x0, x1, x2, x3, h2 _ hm⟩
/-- The same of a slice whose place is known. -/
theorem ActRow.cells {w wr : World} {r o n cap : Nat} {l : List A1} {B : Nat} (h : ActRow w (.slice (some ⟨r, o, none⟩) n cap) l) (hb : Below B w wr) (hB : w.heap.size ≤ B) {j : Nat} (hj : j < l.length) {A : A1} (hA : l.getD j a0 = A) :
    wr.cell? ⟨r, o + j * 4 + 1, none⟩ = some (.int .i64 A.i) ∧ wr.cell? ⟨r, o + j * 4 + 3, none⟩ = some (.string A.s) ∧ r < wr.heap.size := by
  obtain ⟨r', o', e, hr, x0, x1, x2, x3, _⟩ := h.at hb hB hj
  cases e
  rw [hA] at x1 x3
  exact ⟨x1, x3, hr⟩
end

/-! PfUp -/
section
open Go.RowKit
set_option linter.unusedVariables false

theorem hasP_up {n : Nat} {d : Dk} (h : Up n d) (i : Int) : hasP d i = decide (2 ≤ i ∧ i < n) := by unfold hasP; rw [h.sl]
/-- A page is written, or nothing has turned. -/
theorem Up.wr {n : Nat} {d : Dk} (h : Up n d) (i : Int) (k : UInt8) (s : ByteArray) :
    ((d.wr i k s).1 = 0 ∧ 2 ≤ i ∧ i < n ∧ s.size ≤ 240 ∧ Up n (d.wr i k s).2 ∧ (d.wr i k s).2.pend = d.pend ++ [(i.toNat, pageS i k s)] ∧ (d.wr i k s).2.sure = d.sure) ∨
    ((d.wr i k s).1 ≠ 0 ∧ (d.wr i k s).2 = d ∧ ¬ (2 ≤ i ∧ i < n ∧ s.size ≤ 240)) := by
  unfold Dk.wr
  rw [hasP_up h]
  by_cases hi : 2 ≤ i ∧ i < n
  · rw [decide_eq_true hi, if_pos rfl]
    by_cases hs : 240 < s.size
    · rw [if_pos hs]
      exact .inr ⟨by show (50 : Int) ≠ 0; decide, rfl, fun c => by omega⟩
    · rw [if_neg hs]
      rcases h.put i (pageS i k s) with ⟨p1, p2, p3, p4, p5, p6, p7, _⟩ | ⟨_, _, p3⟩
      · exact .inl ⟨p1, hi.1, hi.2, by omega, p5, p6, p7⟩
      · exact absurd ⟨by omega, hi.2, pageS_size _ _ _ (by omega)⟩ p3
  · rw [decide_eq_false hi, if_neg (by decide)]
    exact .inr ⟨by show (40 : Int) ≠ 0; decide, rfl, fun c => hi ⟨c.1, c.2.1⟩⟩
/-- A page is read. -/
theorem Up.rd {n : Nat} {d : Dk} (h : Up n d) (j : Nat) (k : UInt8) (h2 : 2 ≤ j) (hj : j < n) :
    (d.rd j k).1 = openE k (opn j (d.now j).data.toList) ∧ Up n (d.rd j k).2 ∧ (∀ i, (d.rd j k).2.now i = d.now i) ∧ (d.rd j k).2.pend = d.pend ∧ (d.rd j k).2.sure = d.sure := by
  unfold Dk.rd
  rw [hasP_up h, decide_eq_true (show 2 ≤ (j : Int) ∧ (j : Int) < (n : Int) by omega), if_pos rfl]
  obtain ⟨g1, g2, g3, g4, g5⟩ := h.get j hj
  rw [g1, if_pos rfl]
  exact ⟨rfl, g2, g3, g4, g5⟩
/-- A slot is read. -/
theorem Up.slot {n : Nat} {d : Dk} (h : Up n d) (j : Nat) (h2 : j < 2) (hj : j < n) :
    (d.slot j).1 = (d.now j, 0) ∧ Up n (d.slot j).2 ∧ (∀ i, (d.slot j).2.now i = d.now i) ∧ (d.slot j).2.pend = d.pend ∧ (d.slot j).2.sure = d.sure := by
  unfold Dk.slot
  rw [if_pos (by unfold slotB; exact decide_eq_true (by omega))]
  exact h.get j hj
/-- A slot is written, or nothing has turned. -/
theorem Up.putSlot {n : Nat} {d : Dk} (h : Up n d) (hn : 2 ≤ n) (i : Int) (s : ByteArray) (hs : s.size = 256) :
    ((d.putSlot i s).1 = 0 ∧ 0 ≤ i ∧ i < 2 ∧ Up n (d.putSlot i s).2 ∧ (d.putSlot i s).2.pend = d.pend ++ [(i.toNat, s)] ∧ (d.putSlot i s).2.sure = d.sure) ∨
    ((d.putSlot i s).1 ≠ 0 ∧ (d.putSlot i s).2 = d) := by
  unfold Dk.putSlot
  by_cases hi : 0 ≤ i ∧ i < 2
  · rw [if_pos (by unfold slotB; exact decide_eq_true hi)]
    rcases h.put i s with ⟨p1, p2, p3, p4, p5, p6, p7, _⟩ | ⟨_, _, p3⟩
    · exact .inl ⟨p1, hi.1, hi.2, p5, p6, p7⟩
    · exact absurd ⟨hi.1, by omega, hs⟩ p3
  · rw [if_neg (by unfold slotB; rw [decide_eq_true_iff]; exact hi)]
    exact .inr ⟨by show (40 : Int) ≠ 0; decide, rfl⟩

theorem open_page (j : Nat) (hj : j < 16384) (k : UInt8) (s : ByteArray) (hs : s.size ≤ 240) : openE k (opn j (pageS j k s).data.toList) = (s, 0) := by
  have e : sealE (j : Int) s.data.toList.length = 0 := sealE_zero.2 ⟨by simpa using hs, by omega, by omega⟩
  have := opn_page (j : Int) k s.data.toList e
  unfold pageS
  rw [show (⟨(pageL (j : Int).toNat k s.data.toList).toArray⟩ : ByteArray).data.toList = pageL (j : Int).toNat k s.data.toList from rfl, this]
  unfold openE
  rw [if_pos ⟨rfl, rfl⟩]
theorem opI_zero : opI zeroS.data.toList = 0 := by decide +kernel
/-- A sector of noughts is no page. -/
theorem open_zero (j : Nat) (h : 0 < j) (k : UInt8) : openE k (opn j zeroS.data.toList) = (ByteArray.empty, 3) := by
  have e : opn j zeroS.data.toList = (0, [], 3) := by
    rcases opn_cases (j : Int) zeroS.data.toList with ⟨k, b, h1, h2, _⟩ | ⟨_, h3⟩
    · have hz := sealE_zero.1 h1
      have := opI_page (j : Int).toNat k b (by omega)
      rw [← h2, opI_zero] at this
      omega
    · exact h3
  rw [e]
  unfold openE
  rw [if_neg (fun c => absurd c.1 (by decide))]
theorem new_now {n : Nat} {j : Nat} (hj : j < n) (hn : n ≤ 16384) : (Dk.new n).now j = zeroS := by
  unfold Dk.now Dk.new
  show sAt (List.replicate (min (max (n : Int) 0) 16384).toNat zeroS) j = zeroS
  unfold sAt
  rw [List.getD_eq_getElem?_getD, List.getElem?_replicate, if_pos (by omega)]
  rfl

theorem make12s (w : World) : (Instr.makeSlice 54 (.int .i64 12) (.int .i64 12)).run Tryz.prog w = .ok (.slice (some ⟨w.heap.size, 0, none⟩) 12 12) (w.alloc (.cells ((List.replicate 12 ByteArray.empty).map Value.string).toArray 9)) := by
  have h := make_strs w 12 (by omega)
  exact h
theorem make12b (w : World) : (Instr.makeSlice 52 (.int .i64 12) (.int .i64 12)).run Tryz.prog w = .ok (.slice (some ⟨w.heap.size, 0, none⟩) 12 12) (w.alloc (.cells ((List.replicate 12 false).map Value.bool).toArray 4)) := by
  have h := make_bools w [] 12 (by omega)
  exact h
theorem infoKind : (Tryz.prog.info? 38).map (fun i => (i.zero, i.size, i.bytes)) = some (some (.int .u8 0), 1, 1) := by kernel_rfl
theorem make12k (w : World) : (Instr.makeSlice 53 (.int .i64 12) (.int .i64 12)).run Tryz.prog w = .ok (.slice (some ⟨w.heap.size, 0, none⟩) 12 12) (w.alloc (.cells ((List.replicate 12 (0 : UInt8)).map kdV).toArray 38)) := by
  obtain ⟨i0, hi, hz0, hz1, hz2⟩ := info_parts infoKind
  have h := run_make (P := Tryz.prog) w 53 38 i0 _ Tryz.underlying53 hi hz0 .i64 .i64 12 12 (by omega) (Int.le_refl _) (by rw [hz2]; omega) (by omega)
  rw [h]
  have e : madeCells (Value.int .u8 0).cells ((12 : Int).toNat * i0.size) = ((List.replicate 12 (0 : UInt8)).map kdV).toArray := by
    rw [hz1]
    apply Array.toList_inj.1
    rw [show (Value.int .u8 0).cells = #[Value.int .u8 0] from rfl, toList_madeCells_one]
    simp [kdV]
  rw [e]
  simp

/-- What each page of twelve sectors is wanted to read as. -/
structure Pages (d : Dk) (kinds : List UInt8) (bodies : List ByteArray) (there : List Bool) : Prop where
  kl : kinds.length = 12
  bl : bodies.length = 12
  tl : there.length = 12
  yes : ∀ j, 2 ≤ j → j < 12 → bAt there j = true → d.now j = pageS j (kAt kinds j) (sAt bodies j) ∧ (sAt bodies j).size ≤ 240
  no : ∀ j, 2 ≤ j → j < 12 → bAt there j = false → d.now j = zeroS
theorem Pages.new (k : UInt8) : Pages (Dk.new 12) (List.replicate 12 k) (List.replicate 12 ByteArray.empty) (List.replicate 12 false) := by
  refine ⟨rfl, rfl, rfl, fun j _ hj h => ?_, fun j _ hj _ => new_now (n := 12) hj (by omega)⟩
  rw [show bAt (List.replicate 12 false) j = false by unfold bAt; rw [List.getD_eq_getElem?_getD, List.getElem?_replicate, if_pos hj]; rfl] at h
  cases h
theorem Pages.same {d d2 : Dk} {kinds : List UInt8} {bodies : List ByteArray} {there : List Bool} (h : Pages d kinds bodies there) (hn : ∀ j, 2 ≤ j → j < 12 → d2.now j = d.now j) : Pages d2 kinds bodies there :=
  ⟨h.kl, h.bl, h.tl, fun j h2 hj ht => by rw [hn j h2 hj]; exact h.yes j h2 hj ht, fun j h2 hj ht => by rw [hn j h2 hj]; exact h.no j h2 hj ht⟩
theorem Pages.set {d d2 : Dk} {kinds : List UInt8} {bodies : List ByteArray} {there : List Bool} (h : Pages d kinds bodies there) {i : Nat} (hi : i < 12) {k : UInt8} {s : ByteArray} (hz : s.size ≤ 240) (hp : d2.pend = d.pend ++ [(i, pageS i k s)]) (hs : d2.sure = d.sure) :
    Pages d2 (kinds.set i k) (bodies.set i s) (there.set i true) := by
  have a1 := h.kl
  have a2 := h.bl
  have a3 := h.tl
  refine ⟨by rw [List.length_set]; exact a1, by rw [List.length_set]; exact a2, by rw [List.length_set]; exact a3, fun j h2 hj ht => ?_, fun j h2 hj ht => ?_⟩
  · rw [now_snoc hp hs, kAt_set _ (by omega), sAt_set _ (by omega)]
    rw [bAt_set _ (by omega)] at ht
    by_cases e : i = j
    · subst e
      rw [if_pos rfl, if_pos rfl, if_pos rfl]
      exact ⟨rfl, hz⟩
    · rw [if_neg e, if_neg e, if_neg e]
      rw [if_neg e] at ht
      exact h.yes j h2 hj ht
  · rw [bAt_set _ (by omega)] at ht
    by_cases e : i = j
    · rw [if_pos e] at ht
      cases ht
    · rw [if_neg e] at ht
      rw [now_snoc hp hs, if_neg e]
      exact h.no j h2 hj ht
/-- A kind row that nobody changes. -/
theorem kAt_same (k : UInt8) (n : Nat) {j : Nat} (hj : j < n) : kAt (List.replicate n k) j = k := by
  unfold kAt
  rw [List.getD_eq_getElem?_getD, List.getElem?_replicate, if_pos hj]
  rfl

/-- Pages that are all of one kind. -/
def PagesL (k : UInt8) (d : Dk) (bodies : List ByteArray) (there : List Bool) : Prop := ∃ kinds, Pages d kinds bodies there ∧ ∀ j, j < 12 → kAt kinds j = k
theorem PagesL.new (k : UInt8) : PagesL k (Dk.new 12) (List.replicate 12 ByteArray.empty) (List.replicate 12 false) := ⟨_, Pages.new k, fun _ hj => kAt_same k 12 hj⟩
theorem PagesL.same {k : UInt8} {d d2 : Dk} {bodies : List ByteArray} {there : List Bool} (h : PagesL k d bodies there) (hn : ∀ j, 2 ≤ j → j < 12 → d2.now j = d.now j) : PagesL k d2 bodies there := by
  obtain ⟨kinds, h1, h2⟩ := h
  exact ⟨kinds, h1.same hn, h2⟩
theorem PagesL.set {k : UInt8} {d d2 : Dk} {bodies : List ByteArray} {there : List Bool} (h : PagesL k d bodies there) {i : Nat} (hi : i < 12) {s : ByteArray} (hz : s.size ≤ 240) (hp : d2.pend = d.pend ++ [(i, pageS i k s)]) (hs : d2.sure = d.sure) : PagesL k d2 (bodies.set i s) (there.set i true) := by
  obtain ⟨kinds, h1, h2⟩ := h
  refine ⟨kinds.set i k, h1.set hi hz hp hs, fun j hj => ?_⟩
  rw [kAt_set _ (by rw [h1.kl]; exact hi)]
  split
  · rfl
  · exact h2 j hj
theorem PagesL.lens {k : UInt8} {d : Dk} {bodies : List ByteArray} {there : List Bool} (h : PagesL k d bodies there) : bodies.length = 12 ∧ there.length = 12 := by
  obtain ⟨kinds, h1, _⟩ := h
  exact ⟨h1.bl, h1.tl⟩
/-- What is read of a page. -/
theorem Pages.open {d : Dk} {kinds : List UInt8} {bodies : List ByteArray} {there : List Bool} (h : Pages d kinds bodies there) {j : Nat} (h2 : 2 ≤ j) (hj : j < 12) : openE (kAt kinds j) (opn j (d.now j).data.toList) = if bAt there j then (sAt bodies j, 0) else (ByteArray.empty, 3) := by
  cases ht : bAt there j with
  | true =>
    obtain ⟨e, hz⟩ := h.yes j h2 hj ht
    rw [e, open_page j (by omega) _ _ hz]
    rfl
  | false =>
    rw [h.no j h2 hj ht, open_zero j (by omega)]
    rfl
end

end Go.Proofs.YtnngfkjbbedkpaaGreatDoor

/-
  Package pagefile's calls, said of a file: a disk, and the block that names it.
-/
import Derived.Test.YtalljfckjkbieaaDoorPfKit
import Derived.Test.YtalljfckjkbieaaDoorPfPlain
namespace Go.Proofs.YtalljfckjkbieaaDoor
open Go.RowKit
set_option linter.unusedVariables false

def fileO (b : Nat) : Obj := .cells #[ptr b] 71 (0, 0)
/-- A file. -/
def File (f b : Nat) (d : Dk) : Res := Both (Disk b d) (Blk f (fileO b))
/-- The table is there, whatever comes. -/
def Tabs (B : Nat) (w0 : World) : Prop := ∀ u, Below B w0 u → Tab u
theorem tabs_of {w : World} (h : Tab w) : Tabs w.heap.size w := fun _ hu => h.below hu

section
variable {B : Nat} {w0 w w' : World} {f b : Nat} {d d' : Dk} {l : List Res}
theorem Sep.part (h : Sep B w0 w (File f b d :: l)) : Sep B w0 w (Disk b d :: Blk f (fileO b) :: l) := h.map fun _ => Hp.part (good_disk _ _) (good_blk _ _)
theorem Sep.fcell (h : Sep B w0 w (File f b d :: l)) : w.cell? ⟨f, 0, none⟩ = some (ptr b) ∧ f < w.heap.size := by
  have hb := h.part.up1.blk
  exact ⟨by simp [World.cell?, hb, fileO], (Array.getElem?_eq_some_iff.1 hb).1⟩
theorem Sep.fok (h : Sep B w0 w (File f b d :: l)) : d.Ok := h.part.ok

theorem nowTo_size (ok : d.Ok) {i : Nat} (hi : i < d.sure.length) : ∀ n, n ≤ d.pend.length → (nowTo d.sure d.pend i n).size = 256
  | 0, _ => sAt_size ok.sz hi
  | n + 1, hn => by
    rw [nowTo_succ]
    split
    · exact (wAt_ok ok (by omega)).2
    · exact nowTo_size ok hi n (by omega)
theorem Dk.get_size (ok : d.Ok) (i : Int) : (d.get i).1.1.size ≤ maxLen := by
  unfold Dk.get
  split
  · unfold maxLen; simp
  · split
    · rename_i h
      have := of_decide_eq_true h
      show (d.now i.toNat).size ≤ maxLen
      unfold Dk.now
      rw [nowTo_size ok (by omega) _ (Nat.le_refl _)]
      decide
    · unfold maxLen; simp

set_option maxHeartbeats 400000 in
theorem new_f (h : Sep B w0 w (Disk b d :: l)) : Calls Tryd.prog 17 #[ptr b] w fun e w' => ∃ f, e = .returned (ptr f) ∧ Sep B w0 w' (File f b d :: l) := by
  have S1 : Hid (Sep B w0 (w.alloc (fileO b)) (File w.heap.size b d :: l)) := (h.addBlk (fileO b)).up1.join
  unfold fileO at S1
  clear h
  go_enter Tryd.func17, Tryd.ntmps17
  go_wp2
  go_ret
  exact ⟨_, rfl, S1.out⟩

set_option maxHeartbeats 400000 in
theorem new_fnil (h : Sep B w0 w l) : Calls Tryd.prog 17 #[.pointer none] w fun e w' => ∃ f, e = .returned (ptr f) ∧ ∃ b, Sep B w0 w' (File f b (Dk.new 0) :: l) := by
  have C : Hid _ := new_s 0 h
  clear h
  go_enter Tryd.func17, Tryd.ntmps17
  go_wp2_with fail
  refine Calls.mono C.out ?_
  rintro e w1 ⟨b, rfl, s1⟩
  have S1 : Hid (Sep B w0 (w1.alloc (fileO b)) (File w1.heap.size b (Dk.new 0) :: l)) := (s1.addBlk (fileO b)).up1.join
  unfold fileO at S1
  clear s1 C
  go_wp2
  go_ret
  exact ⟨_, rfl, b, S1.out⟩

set_option maxHeartbeats 400000 in
theorem isSlot_c (i : Int) (w : World) : Calls Tryd.prog 49 #[.int .i64 i] w fun e w' => e = .returned (.bool (slotB i)) ∧ w = w' := by
  by_cases h0 : 0 ≤ i
  · have E : Hid (decide (i < 2) = slotB i) := by
      show _ = _
      unfold slotB
      rw [decide_eq_decide]
      omega
    go_enter Tryd.func49, Tryd.ntmps49
    go_wp2
    go_ret
    exact ⟨ret_bool E.out, rfl⟩
  · have E : Hid (slotB i = false) := by
      show _ = _
      unfold slotB
      rw [decide_eq_false_iff_not]
      omega
    go_enter Tryd.func49, Tryd.ntmps49
    go_wp2
    go_ret
    exact ⟨ret_bool E.out.symm, rfl⟩

theorem openE_cases (kind : UInt8) (id : Int) (s : List UInt8) : ((opn id s).2.2 ≠ 0 ∧ openE kind (opn id s) = (ByteArray.empty, 3) ∧ opn id s = (0, [], 3)) ∨
    ((opn id s).2.2 = 0 ∧ (opn id s).1 ≠ kind ∧ openE kind (opn id s) = (ByteArray.empty, 3)) ∨ ((opn id s).2.2 = 0 ∧ (opn id s).1 = kind ∧ openE kind (opn id s) = (⟨(opn id s).2.1.toArray⟩, 0)) := by
  unfold openE
  by_cases h : (opn id s).2.2 = 0
  · by_cases hk : (opn id s).1 = kind
    · exact .inr (.inr ⟨h, hk, by rw [if_pos ⟨h, hk⟩]⟩)
    · exact .inr (.inl ⟨h, hk, by rw [if_neg (fun c => hk c.2)]⟩)
  · exact .inl ⟨h, by rw [if_neg (fun c => h c.1)], opn_nay h⟩

theorem kind_ne {a b : UInt8} (h : a ≠ b) : ((a.toNat : Int) == (b.toNat : Int)) = false := by
  rw [beq_eq_false_iff_ne]
  intro e
  exact h (UInt8.toNat_inj.1 (by omega))

set_option maxHeartbeats 400000 in
theorem sync_f (h : Sep B w0 w (File f b d :: l)) (hl : d.pend.length < 100000) : Calls Tryd.prog 33 #[ptr f] w fun e w' => e = .returned (.int .i64 d.sync.1) ∧ Sep B w0 w' (File f b d.sync.2 :: l) := by
  obtain ⟨c0, hf⟩ := h.fcell
  have C : Hid _ := sync_s h.part hl
  generalize d.sync.1 = er at *
  generalize d.sync.2 = d2 at *
  clear h
  go_enter Tryd.func33, Tryd.ntmps33
  go_wp2_with fail
  refine Calls.mono C.out ?_
  rintro e w1 ⟨rfl, s1⟩
  have S1 : Hid (Sep B w0 w1 (File f b d2 :: l)) := s1.join
  clear C s1
  go_wp2
  go_ret
  exact ⟨rfl, S1.out⟩

set_option maxHeartbeats 400000 in
theorem slot_f (h : Sep B w0 w (File f b d :: l)) (i : Int) : Calls Tryd.prog 34 #[ptr f, .int .i64 i] w fun e w' => e = .returned (.tuple #[.string (d.slot i).1.1, .int .i64 (d.slot i).1.2]) ∧ Sep B w0 w' (File f b (d.slot i).2 :: l) := by
  obtain ⟨c0, hf⟩ := h.fcell
  have CH0 := isSlot_c i w
  have HS : Hid (Sep B w0 w (File f b d :: l)) := h
  cases hp : slotB i with
  | false =>
    rw [hp] at CH0
    have CH : Hid _ := CH0
    have E : Hid (d.slot i = ((ByteArray.empty, 40), d)) := by show _ = _; unfold Dk.slot; rw [hp]; rfl
    rw [E.out]
    clear h CH0 hp
    go_enter Tryd.func34, Tryd.ntmps34
    go_wp2_with fail
    refine Calls.mono CH.out ?_
    rintro e w1 ⟨rfl, rfl⟩
    clear CH
    go_wp2
    go_ret2
    exact ⟨rfl, HS.out⟩
  | true =>
    rw [hp] at CH0
    have CH : Hid _ := CH0
    have E : d.slot i = d.get i := by unfold Dk.slot; rw [hp]; rfl
    rw [E]
    have CR : Hid _ := read_s h.part i
    generalize (d.get i).1.1 = s at *
    generalize (d.get i).1.2 = er at *
    generalize (d.get i).2 = d2 at *
    clear h CH0 hp E HS
    go_enter Tryd.func34, Tryd.ntmps34
    go_wp2_with fail
    refine Calls.mono CH.out ?_
    rintro e w1 ⟨rfl, rfl⟩
    clear CH
    go_wp2_with fail
    refine Calls.mono CR.out ?_
    rintro e w2 ⟨rfl, s2⟩
    have S2 : Hid (Sep B w0 w2 (File f b d2 :: l)) := s2.join
    clear CR s2
    go_wp2
    go_ret2
    exact ⟨rfl, S2.out⟩

set_option maxHeartbeats 400000 in
theorem putSlot_f (h : Sep B w0 w (File f b d :: l)) (i : Int) (s : ByteArray) (hs : s.size ≤ maxLen) (hl : d.pend.length < 100000) : Calls Tryd.prog 32 #[ptr f, .int .i64 i, .string s] w fun e w' => e = .returned (.int .i64 (d.putSlot i s).1) ∧ Sep B w0 w' (File f b (d.putSlot i s).2 :: l) := by
  obtain ⟨c0, hf⟩ := h.fcell
  have CH0 := isSlot_c i w
  have HS : Hid (Sep B w0 w (File f b d :: l)) := h
  cases hp : slotB i with
  | false =>
    rw [hp] at CH0
    have CH : Hid _ := CH0
    have E : Hid (d.putSlot i s = (40, d)) := by show _ = _; unfold Dk.putSlot; rw [hp]; rfl
    rw [E.out]
    clear h CH0 hp
    go_enter Tryd.func32, Tryd.ntmps32
    go_wp2_with fail
    refine Calls.mono CH.out ?_
    rintro e w1 ⟨rfl, rfl⟩
    clear CH
    go_wp2
    go_ret
    exact ⟨rfl, HS.out⟩
  | true =>
    rw [hp] at CH0
    have CH : Hid _ := CH0
    have E : d.putSlot i s = d.put i s := by unfold Dk.putSlot; rw [hp]; rfl
    rw [E]
    have CR : Hid _ := write_s h.part i s hs hl
    generalize (d.put i s).1 = er at *
    generalize (d.put i s).2 = d2 at *
    clear h CH0 hp E HS
    go_enter Tryd.func32, Tryd.ntmps32
    go_wp2_with fail
    refine Calls.mono CH.out ?_
    rintro e w1 ⟨rfl, rfl⟩
    clear CH
    go_wp2_with fail
    refine Calls.mono CR.out ?_
    rintro e w2 ⟨rfl, s2⟩
    have S2 : Hid (Sep B w0 w2 (File f b d2 :: l)) := s2.join
    clear CR s2
    go_wp2
    go_ret
    exact ⟨rfl, S2.out⟩

/-- The disk's own calls, where a file stands on it. -/
theorem break_f (h : Sep B w0 w (File f b d :: l)) (n : Int) (hn : n ≤ 9223372036854775807) : Calls Tryd.prog 20 #[ptr b, .int .i64 n] w fun e w' => e = .returned (.tuple #[]) ∧ Sep B w0 w' (File f b (d.stop n) :: l) := (break_s h.part n hn).mono fun _ _ h => ⟨h.1, h.2.join⟩
theorem crash_f (h : Sep B w0 w (File f b d :: l)) (kv : Value) (keep : List Int) (hkv : IntRow w kv keep) (torn cut : Int) (hp : d.pend.length < 100000) (hk : keep.length < 100000) : Calls Tryd.prog 21 #[ptr b, kv, .int .i64 torn, .int .i64 cut] w fun e w' => e = .returned (.tuple #[]) ∧ Sep B w0 w' (File f b (d.crash keep torn cut) :: l) := (crash_s h.part kv keep hkv torn cut hp hk).mono fun _ _ h => ⟨h.1, h.2.join⟩
theorem dwrite_f (h : Sep B w0 w (File f b d :: l)) (i : Int) (s : ByteArray) (hs : s.size ≤ maxLen) (hp : d.pend.length < 100000) : Calls Tryd.prog 50 #[ptr b, .int .i64 i, .string s] w fun e w' => e = .returned (.int .i64 (d.put i s).1) ∧ Sep B w0 w' (File f b (d.put i s).2 :: l) := (write_s h.part i s hs hp).mono fun _ _ h => ⟨h.1, h.2.join⟩
end
end Go.Proofs.YtalljfckjkbieaaDoor

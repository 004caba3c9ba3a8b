/-
  The walk of the law PagefileNone.
-/
import Derived.Test.YtkbakmgjplhjiaaDoorPfLaw
namespace Go.Proofs.YtkbakmgjplhjiaaDoor
open Go.RowKit
set_option linter.unusedVariables false

/-- A disk that is up and has no page, and no second slot. -/
structure Nn (d : Dk) : Prop where
  dn : d.down = false
  sl : d.sure.length ≤ 1
theorem Nn.has {d : Dk} (h : Nn d) {i : Int} (hi : 1 ≤ i) : d.has i = false := by
  have := h.sl
  unfold Dk.has
  rw [decide_eq_false_iff_not]
  omega
theorem Nn.rd {d : Dk} (h : Nn d) (i : Int) (k : UInt8) : d.rd i k = ((ByteArray.empty, 40), d) := by
  have := h.sl
  unfold Dk.rd
  rw [show hasP d i = false by unfold hasP; rw [decide_eq_false_iff_not]; omega]
  rfl
theorem Nn.wr {d : Dk} (h : Nn d) (i : Int) (k : UInt8) (s : ByteArray) : d.wr i k s = (40, d) := by
  have := h.sl
  unfold Dk.wr
  rw [show hasP d i = false by unfold hasP; rw [decide_eq_false_iff_not]; omega]
  rfl
theorem Nn.slot {d : Dk} (h : Nn d) : d.slot 1 = ((ByteArray.empty, 40), d) := by
  unfold Dk.slot
  rw [if_pos (by decide)]
  unfold Dk.get
  rw [h.dn, h.has (by decide)]
  rfl
theorem Nn.putSlot {d : Dk} (h : Nn d) (s : ByteArray) : d.putSlot 1 s = (40, d) := by
  unfold Dk.putSlot
  rw [if_pos (by decide), Dk.put_range h.dn (h.has (by decide))]
theorem Nn.room {d : Dk} (h : Nn d) : d.sync.2.room = 2 := by
  have := h.sl
  unfold Dk.room
  rw [d.sync_length.1]
  omega
theorem Nn.new {n : Int} (hn : n ≤ 1) : Nn (Dk.new n) := ⟨rfl, by simp [Dk.new]; omega⟩

section
variable {B : Nat} {w0 w : World} {f b : Nat} {d : Dk} {l : List Res}
set_option maxHeartbeats 2000000 in
set_option maxRecDepth 100000 in
theorem none_c (T : Tabs B w0) (h : Sep B w0 w (File f b d :: l)) (N : Nn d) (hl : d.pend.length < 100000) (i : Int) (k : UInt8) (s : ByteArray) (hs : s.size ≤ maxLen) :
    Calls Tryd.prog 29 #[ptr f, .int .i64 i, .int .u8 (k.toNat : Int), .string s] w fun e w' => e = .returned (.bool true) ∧ Sep B w0 w' (File f b d.sync.2 :: l) := by
  have C1 : Hid _ := read_f T h i k
  rw [N.rd] at C1
  have K2 : Hid (∀ u, Sep B w0 u (File f b d :: l) → Calls Tryd.prog 13 #[ptr f, .int .i64 i, .int .u8 (k.toNat : Int), .string s] u fun e w' => e = .returned (.int .i64 40) ∧ Sep B w0 w' (File f b d :: l)) := fun u hu => by
    have := write_f T hu i k s hs hl
    rw [N.wr] at this
    exact this
  have K3 : Hid (∀ u, Sep B w0 u (File f b d :: l) → Calls Tryd.prog 17 #[ptr f, .int .i64 1] u fun e w' => e = .returned (.tuple #[.string ByteArray.empty, .int .i64 40]) ∧ Sep B w0 w' (File f b d :: l)) := fun u hu => by
    have := slot_f hu 1
    rw [N.slot] at this
    exact this
  have K4 : Hid (∀ u, Calls Tryd.prog 20 #[.string s] u fun e w' => e = .returned (.string (fullS s)) ∧ u = w') := fun u => full_c s hs u
  have K5 : Hid (∀ u, Sep B w0 u (File f b d :: l) → Calls Tryd.prog 19 #[ptr f, .int .i64 1, .string (fullS s)] u fun e w' => e = .returned (.int .i64 40) ∧ Sep B w0 w' (File f b d :: l)) := fun u hu => by
    have := putSlot_f hu 1 (fullS s) (by rw [fullS_size]; decide) hl
    rw [N.putSlot] at this
    exact this
  have K6 : Hid (∀ u, Sep B w0 u (File f b d :: l) → Calls Tryd.prog 15 #[ptr f] u fun e w' => e = .returned (.int .i64 0) ∧ Sep B w0 w' (File f b d.sync.2 :: l)) := fun u hu => by
    have := sync_f hu hl
    rw [show d.sync.1 = 0 by rw [Dk.sync_ok N.dn]] at this
    exact this
  have K7 : Hid (∀ u, Sep B w0 u (File f b d.sync.2 :: l) → Calls Tryd.prog 28 #[ptr f] u fun e w' => e = .returned (.int .i64 2) ∧ u = w') := fun u hu => by
    have := room_f hu
    rw [N.room] at this
    exact this
  generalize d.sync.2 = d2 at *
  generalize fullS s = fs at *
  clear h N T hl hs
  go_enter Tryd.func29, Tryd.ntmps29
  go_wp2_with fail
  refine Calls.mono C1.out ?_
  rintro e w1 ⟨rfl, s1⟩
  have C2 : Hid _ := K2.out w1 s1
  clear s1 C1 K2
  go_wp2_with fail
  refine Calls.mono C2.out ?_
  rintro e w2 ⟨rfl, s2⟩
  have C3 : Hid _ := K3.out w2 s2
  clear s2 C2 K3
  go_wp2_with fail
  refine Calls.mono C3.out ?_
  rintro e w3 ⟨rfl, s3⟩
  have C4 : Hid _ := K4.out w3
  have C5 : Hid _ := K5.out w3 s3
  clear s3 C3 K4 K5
  go_wp2_with fail
  refine Calls.mono C4.out ?_
  rintro e w4 ⟨rfl, rfl⟩
  clear C4
  go_wp2_with fail
  refine Calls.mono C5.out ?_
  rintro e w5 ⟨rfl, s5⟩
  have C6 : Hid _ := K6.out w5 s5
  clear s5 C5 K6
  go_wp2_with fail
  refine Calls.mono C6.out ?_
  rintro e w6 ⟨rfl, s6⟩
  have S6 : Hid (Sep B w0 w6 (File f b d2 :: l)) := s6
  have C7 : Hid _ := K7.out w6 s6
  clear s6 C6 K7
  go_wp2_with fail
  refine Calls.mono C7.out ?_
  rintro e w7 ⟨rfl, rfl⟩
  clear C7
  go_wp2
  go_ret
  exact ⟨rfl, S6.out⟩
end

set_option maxHeartbeats 2000000 in
set_option maxRecDepth 100000 in
theorem none_walk (n i k0 : Int) (s : ByteArray) (w : World) (T : Tab w) (hn : -9223372036854775808 ≤ n ∧ n ≤ 9223372036854775807) (hi : -9223372036854775808 ≤ i ∧ i ≤ 9223372036854775807) (hk : 0 ≤ k0 ∧ k0 ≤ 255) (hs : s.size ≤ maxLen) :
    Calls Tryd.prog 5 #[.int .i64 n, .int .i64 i, .int .u8 k0, .string s] w fun e w' => e = .returned (.bool true) ∧ Below w.heap.size w w' := by
  obtain ⟨k, rfl⟩ := byte_of k0 hk
  have CW : Hid _ := works_any w T
  have TS : Hid (Tabs w.heap.size w) := tabs_of T
  have HZ : Hid (s.size ≤ maxLen) := hs
  unfold maxLen at hs
  clear T hk hi
  by_cases h3 : 300 < s.size
  · have h3z : (300 : Int) < (s.size : Int) := by omega
    go_enter Tryd.func5, Tryd.ntmps5
    go_wp2_with fail
    refine Calls.mono CW.out ?_
    rintro e w1 ⟨rfl, b1⟩
    have B1 : Hid (Below w.heap.size w w1) := b1
    clear b1 CW
    go_wp2
    go_ret
    exact ⟨rfl, B1.out⟩
  · have h3z : ¬ (300 : Int) < (s.size : Int) := by omega
    have N0 : Hid (Nn (Dk.new 0)) := Nn.new (by decide)
    have N1 : Hid (Nn (Dk.new (min n 1))) := Nn.new (by omega)
    have P0 : Hid ((Dk.new 0).pend.length < 100000) := by show (0 : Nat) < 100000; decide
    have P1 : Hid ((Dk.new (min n 1)).pend.length < 100000) := by show (0 : Nat) < 100000; decide
    go_enter Tryd.func5, Tryd.ntmps5
    go_wp2_with fail
    refine Calls.mono CW.out ?_
    rintro e w1 ⟨rfl, b1⟩
    have C1 : Hid _ := new_fnil (Sep.nil b1.size b1)
    clear b1 CW
    go_wp2_with fail
    refine Calls.mono C1.out ?_
    rintro e w2 ⟨f, rfl, b, s2⟩
    have C2 : Hid _ := new_s (min n 1) s2
    generalize hD : Dk.new (min n 1) = d1 at *
    generalize hE : Dk.new 0 = d0 at *
    clear s2 C1 hD hE
    go_wp2_with fail
    refine Calls.mono C2.out ?_
    rintro e w3 ⟨b2, rfl, s3⟩
    have C3 : Hid _ := new_f s3
    clear s3 C2
    go_wp2_with fail
    refine Calls.mono C3.out ?_
    rintro e w4 ⟨f2, rfl, s4⟩
    have C4 : Hid _ := none_c TS.out s4.up1 N0.out P0.out i k s HZ.out
    clear s4 C3
    go_wp2_with fail
    refine Calls.mono C4.out ?_
    rintro e w5 ⟨rfl, s5⟩
    have C5 : Hid _ := none_c TS.out s5.up1 N1.out P1.out i k s HZ.out
    clear s5 C4
    go_wp2_with fail
    refine Calls.mono C5.out ?_
    rintro e w6 ⟨rfl, s6⟩
    have B6 : Hid (Below w.heap.size w w6) := s6.bel
    clear s6 C5
    go_wp2
    go_ret
    exact ⟨rfl, B6.out⟩

end Go.Proofs.YtkbakmgjplhjiaaDoor

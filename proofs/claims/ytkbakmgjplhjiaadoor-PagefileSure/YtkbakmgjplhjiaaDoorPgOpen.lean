/-
  The walks of page.parts, page.Open and page.Check.
-/
import Derived.Test.YtkbakmgjplhjiaaDoorPgSeal
import Derived.OwnWalk
namespace Go.Proofs.YtkbakmgjplhjiaaDoor
open Go.RowKit

theorem str_ne {a b : ByteArray} (h : ¬ a = b) : (a.toList == b.toList) = false := by
  rw [beq_eq_false_iff_ne, Lib.toList_data, Lib.toList_data]
  intro e
  exact h (ba_ext e)

theorem rdBytes_small (s : ByteArray) (e n : Int) (h : s.size ≤ maxLen) : (rdBytes s e n).1.size ≤ maxLen := by
  unfold rdBytes
  split
  · unfold maxLen; simp
  · split
    · unfold maxLen; simp
    · split
      · unfold maxLen; simp
      · simp; omega

set_option maxRecDepth 100000 in
set_option maxHeartbeats 2000000 in
theorem parts_any (s : ByteArray) (w : World) (hs : s.size ≤ maxLen) :
    Calls Tryd.prog 54 #[.string s] w fun e w' => e = .returned (.tuple #[.int .u8 ((prK s).toNat : Int), .string (prB s)]) ∧ (prB s).size ≤ maxLen ∧ Below w.heap.size w w' := by
  have C0 : Hid _ := read_any s w
  have R0 : Hid _ := Rd.made s hs w
  have bl : Hid (Below w.heap.size w (w.alloc (.cells #[.string s, .int .i64 0] 127))) := (Below.refl _ _).alloc (Nat.le_refl _) _
  have hK := pr2_byte s
  have hk : (prK s).toNat < 256 := UInt8.toNat_lt _
  unfold prB
  generalize (prK s).toNat = K at *
  go_enter Tryd.func54, Tryd.ntmps54
  go_wp2_with fail
  refine Calls.mono C0.out ?_
  rintro e w0 ⟨rfl, h0⟩
  rw [← h0] at R0 bl
  clear h0 C0
  have C1 : Hid (Calls Tryd.prog 70 #[.pointer (some ⟨w.heap.size, 0, none⟩), .int .i64 8] w0 fun r w' => r = .returned (.string (pr1 s).1) ∧ Rd w.heap.size (pr1 s).2.1 (pr1 s).2.2 w' ∧ Only w.heap.size w0 w') := bytes_any w.heap.size s 0 8 w0 R0.out
  go_wp2_with fail
  refine Calls.mono C1.out ?_
  rintro e w1 ⟨rfl, r1, o1⟩
  have R1 : Hid (Rd w.heap.size (pr1 s).2.1 (pr1 s).2.2 w1) := r1
  have O1 : Hid (Only w.heap.size w0 w1) := o1
  clear r1 o1 C1
  have C2 : Hid (Calls Tryd.prog 71 #[.pointer (some ⟨w.heap.size, 0, none⟩), .int .i64 1] w1 fun r w' => r = .returned (.int .i64 (pr2 s).1) ∧ Rd w.heap.size (pr2 s).2.1 (pr2 s).2.2 w' ∧ Only w.heap.size w1 w') := int_any w.heap.size _ _ 1 w1 R1.out
  rw [hK] at C2
  go_wp2_with fail
  refine Calls.mono C2.out ?_
  rintro e w2 ⟨rfl, r2, o2⟩
  have R2 : Hid (Rd w.heap.size (pr2 s).2.1 (pr2 s).2.2 w2) := r2
  have O2 : Hid (Only w.heap.size w0 w2) := O1.out.trans o2
  clear r2 o2 C2
  have C3 : Hid (Calls Tryd.prog 70 #[.pointer (some ⟨w.heap.size, 0, none⟩), .int .i64 1] w2 fun r w' => r = .returned (.string (pr3 s).1) ∧ Rd w.heap.size (pr3 s).2.1 (pr3 s).2.2 w' ∧ Only w.heap.size w2 w') := bytes_any w.heap.size _ _ 1 w2 R2.out
  go_wp2_with fail
  refine Calls.mono C3.out ?_
  rintro e w3 ⟨rfl, r3, o3⟩
  have R3 : Hid (Rd w.heap.size (pr3 s).2.1 (pr3 s).2.2 w3) := r3
  have O3 : Hid (Only w.heap.size w0 w3) := O2.out.trans o3
  clear r3 o3 C3
  have C4 : Hid (Calls Tryd.prog 71 #[.pointer (some ⟨w.heap.size, 0, none⟩), .int .i64 2] w3 fun r w' => r = .returned (.int .i64 (pr4 s).1) ∧ Rd w.heap.size (pr4 s).2.1 (pr4 s).2.2 w' ∧ Only w.heap.size w3 w') := int_any w.heap.size _ _ 2 w3 R3.out
  go_wp2_with fail
  refine Calls.mono C4.out ?_
  rintro e w4 ⟨rfl, r4, o4⟩
  have R4 : Hid (Rd w.heap.size (pr4 s).2.1 (pr4 s).2.2 w4) := r4
  have O4 : Hid (Only w.heap.size w0 w4) := O3.out.trans o4
  clear r4 o4 C4
  have C5 : Hid (Calls Tryd.prog 70 #[.pointer (some ⟨w.heap.size, 0, none⟩), .int .i64 4] w4 fun r w' => r = .returned (.string (pr5 s).1) ∧ Rd w.heap.size (pr5 s).2.1 (pr5 s).2.2 w' ∧ Only w.heap.size w4 w') := bytes_any w.heap.size _ _ 4 w4 R4.out
  go_wp2_with fail
  refine Calls.mono C5.out ?_
  rintro e w5 ⟨rfl, r5, o5⟩
  have R5 : Hid (Rd w.heap.size (pr5 s).2.1 (pr5 s).2.2 w5) := r5
  have O5 : Hid (Only w.heap.size w0 w5) := O4.out.trans o5
  clear r5 o5 C5
  have C6 : Hid (Calls Tryd.prog 70 #[.pointer (some ⟨w.heap.size, 0, none⟩), .int .i64 (pr4 s).1] w5 fun r w' => r = .returned (.string (pr6 s).1) ∧ Rd w.heap.size (pr6 s).2.1 (pr6 s).2.2 w' ∧ Only w.heap.size w5 w') := bytes_any w.heap.size _ _ _ w5 R5.out
  have Z : Hid ((pr6 s).1.size ≤ maxLen) := rdBytes_small _ _ _ R5.out.sz
  go_wp2_with fail
  refine Calls.mono C6.out ?_
  rintro e w6 ⟨rfl, r6, o6⟩
  have O6 : Hid (Only w.heap.size w0 w6) := O5.out.trans o6
  clear r6 o6 C6
  go_wp2
  go_ret2
  exact ⟨rfl, Z.out, bl.out.trans (O6.out.below (Nat.le_refl _))⟩

theorem ret_open {a b : UInt8 × List UInt8 × Int} (h : a = b) : Ending.returned (.tuple #[.int .u8 (a.1.toNat : Int), .string ⟨a.2.1.toArray⟩, .int .i64 a.2.2]) = .returned (.tuple #[.int .u8 (b.1.toNat : Int), .string ⟨b.2.1.toArray⟩, .int .i64 b.2.2]) := by rw [h]

set_option maxRecDepth 100000 in
set_option maxHeartbeats 2000000 in
theorem open_any (id : Int) (s : ByteArray) (w : World) (T : Tab w) (hs : s.size ≤ maxLen) :
    Calls Tryd.prog 34 #[.int .i64 id, .string s] w fun e w' => e = .returned (.tuple #[.int .u8 ((opn id s.data.toList).1.toNat : Int), .string ⟨(opn id s.data.toList).2.1.toArray⟩, .int .i64 (opn id s.data.toList).2.2]) ∧ Below w.heap.size w w' := by
  have TAB : Hid (Tab w) := T
  have C0 : Hid _ := parts_any s w hs
  have EO : Hid _ := opn_parts id s
  clear T
  have SE : Hid (∀ w1, Tab w1 → (prB s).size ≤ maxLen → Calls Tryd.prog 37 #[.int .i64 id, .int .u8 ((prK s).toNat : Int), .string (prB s)] w1 fun e w' => e = .returned (.tuple #[.string ⟨(sealS id (prK s) (prB s).data.toList).toArray⟩, .int .i64 (sealE id (prB s).size)]) ∧ Below w1.heap.size w1 w') := fun w1 h1 h2 => seal_any id (prK s) (prB s) w1 h1 h2
  generalize (⟨(sealS id (prK s) (prB s).data.toList).toArray⟩ : ByteArray) = A at *
  generalize sealE id (prB s).size = E at *
  generalize hO : opn id s.data.toList = O at *
  have hb : prB s = ⟨(prB s).data.toList.toArray⟩ := rfl
  by_cases h1 : E = 0
  · subst h1
    by_cases h2 : A = s
    · subst h2
      have EO2 : Hid ((prK A, (prB A).data.toList, (0 : Int)) = O) := by
        have := EO.out
        rwa [if_pos ⟨rfl, rfl⟩] at this
      clear EO
      go_enter Tryd.func34, Tryd.ntmps34
      go_wp2_with fail
      refine Calls.mono C0.out ?_
      rintro e w1 ⟨rfl, z1, b1⟩
      have B1 : Hid (Below w.heap.size w w1) := b1
      have C1 : Hid _ := SE.out w1 (TAB.out.below b1) z1
      clear b1 C0 SE z1
      go_wp2_with fail
      refine Calls.mono C1.out ?_
      rintro e w2 ⟨rfl, b2⟩
      have B2 : Hid (Below w.heap.size w w2) := B1.out.trans (b2.mono B1.out.size)
      clear b2 C1
      go_wp2
      go_ret3
      rw [← EO2.out]
      exact ⟨rfl, B2.out⟩
    · have EO2 : Hid (((0 : UInt8), ([] : List UInt8), (3 : Int)) = O) := by
        have := EO.out
        rwa [if_neg (fun c => h2 c.2)] at this
      have hne := str_ne h2
      clear EO
      go_enter Tryd.func34, Tryd.ntmps34
      go_wp2_with fail
      refine Calls.mono C0.out ?_
      rintro e w1 ⟨rfl, z1, b1⟩
      have B1 : Hid (Below w.heap.size w w1) := b1
      have C1 : Hid _ := SE.out w1 (TAB.out.below b1) z1
      clear b1 C0 SE z1
      go_wp2_with fail
      refine Calls.mono C1.out ?_
      rintro e w2 ⟨rfl, b2⟩
      have B2 : Hid (Below w.heap.size w w2) := B1.out.trans (b2.mono B1.out.size)
      clear b2 C1
      go_wp2
      go_ret3
      rw [← EO2.out]
      exact ⟨rfl, B2.out⟩
  · have EO2 : Hid (((0 : UInt8), ([] : List UInt8), (3 : Int)) = O) := by
      have := EO.out
      rwa [if_neg (fun c => h1 c.1)] at this
    have hne : (E != 0) = true := by rw [bne_iff_ne]; exact h1
    clear EO h1
    go_enter Tryd.func34, Tryd.ntmps34
    go_wp2_with fail
    refine Calls.mono C0.out ?_
    rintro e w1 ⟨rfl, z1, b1⟩
    have B1 : Hid (Below w.heap.size w w1) := b1
    have C1 : Hid _ := SE.out w1 (TAB.out.below b1) z1
    clear b1 C0 SE z1
    go_wp2_with fail
    refine Calls.mono C1.out ?_
    rintro e w2 ⟨rfl, b2⟩
    have B2 : Hid (Below w.heap.size w w2) := B1.out.trans (b2.mono B1.out.size)
    clear b2 C1
    go_wp2
    go_ret3
    rw [← EO2.out]
    exact ⟨rfl, B2.out⟩

end Go.Proofs.YtkbakmgjplhjiaaDoor

/-
  The walk of the law PageBack: what is sealed is opened as it was; what is opened, sealed again, is just those bytes.
-/
import Derived.Test.YtgcaffgdceljaaaDoorPgUse
namespace Go.Proofs.YtgcaffgdceljaaaDoor
open Go.RowKit

set_option maxRecDepth 100000 in
set_option maxHeartbeats 4000000 in
theorem back_in (id : Int) (k : UInt8) (b s : ByteArray) (w : World) (T : Tab w) (hm : b.size ≤ maxLen) (hs : s.size ≤ maxLen) :
    Calls Tryd.prog 5 #[.int .i64 id, .int .u8 (k.toNat : Int), .string b, .string s] w fun e w' => e = .returned (.bool true) ∧ Below w.heap.size w w' := by
  have TAB : Hid (Tab w) := T
  have HM : Hid (b.size ≤ maxLen) := hm
  have HS : Hid (s.size ≤ maxLen) := hs
  unfold maxLen at hm hs
  clear T
  by_cases h1 : 2048 < b.size
  · go_enter Tryd.func5, Tryd.ntmps5
    have D : Hid _ := works_any w TAB.out
    go_wp2_with fail
    refine Calls.mono D.out ?_
    rintro e w1 ⟨rfl, b1⟩
    have B1 : Hid (Below w.heap.size w w1) := b1
    clear b1 D
    go_wp2
    go_ret
    exact ⟨rfl, B1.out⟩
  · by_cases h2 : 2048 < s.size
    · go_enter Tryd.func5, Tryd.ntmps5
      have D : Hid _ := works_any w TAB.out
      go_wp2_with fail
      refine Calls.mono D.out ?_
      rintro e w1 ⟨rfl, b1⟩
      have B1 : Hid (Below w.heap.size w w1) := b1
      clear b1 D
      go_wp2
      go_ret
      exact ⟨rfl, B1.out⟩
    · by_cases h3 : sealE id b.size = 0
      · have Q1 : Hid (∀ w1, Tab w1 → Calls Tryd.prog 9 #[.int .i64 id, .int .u8 (k.toNat : Int), .string b] w1 fun e w' => e = .returned (.tuple #[.string ⟨(pageL id.toNat k b.data.toList).toArray⟩, .int .i64 0]) ∧ Below w1.heap.size w1 w') := fun w1 t1 => seal_yes w1 t1 HM.out h3
        have hbl : b.data.toList.length = b.size := by simp
        have Q2 : Hid (∀ w1, Tab w1 → Calls Tryd.prog 11 #[.int .i64 id, .string ⟨(pageL id.toNat k b.data.toList).toArray⟩] w1 fun e w' => e = .returned (.tuple #[.int .u8 (k.toNat : Int), .string b, .int .i64 0]) ∧ Below w1.heap.size w1 w') := fun w1 t1 => open_yes (b := b.data.toList) w1 t1 rfl (by rw [hbl]; exact h3)
        have Q3 : Hid (∀ w1, Tab w1 → Calls Tryd.prog 13 #[.string ⟨(pageL id.toNat k b.data.toList).toArray⟩] w1 fun e w' => e = .returned (.bool true) ∧ Below w1.heap.size w1 w') := fun w1 t1 => check_yes w1 t1 (by rw [hbl]; exact (sealE_zero.1 h3).1)
        have hG : (⟨(pageL id.toNat k b.data.toList).toArray⟩ : ByteArray).size = 256 := by rw [ba_size, pageL_length _ _ _ (by rw [hbl]; exact (sealE_zero.1 h3).1)]
        generalize (⟨(pageL id.toNat k b.data.toList).toArray⟩ : ByteArray) = G at *
        clear h3 hbl
        by_cases h4 : (opn id s.data.toList).2.2 = 0
        · obtain ⟨l, c, es, hc⟩ := opn_yes h4
          have Q4 : Hid (∀ w1, Tab w1 → Calls Tryd.prog 11 #[.int .i64 id, .string s] w1 fun e w' => e = .returned (.tuple #[.int .u8 (l.toNat : Int), .string ⟨c.toArray⟩, .int .i64 0]) ∧ Below w1.heap.size w1 w') := fun w1 t1 => open_yes w1 t1 es hc
          have Q5 : Hid (∀ w1, Tab w1 → Calls Tryd.prog 9 #[.int .i64 id, .int .u8 (l.toNat : Int), .string ⟨c.toArray⟩] w1 fun e w' => e = .returned (.tuple #[.string s, .int .i64 0]) ∧ Below w1.heap.size w1 w') := fun w1 t1 => by
            have := seal_yes (id := id) (k := l) (b := ⟨c.toArray⟩) w1 t1 (by rw [ba_size]; have := (sealE_zero.1 hc).1; unfold maxLen; omega) (by rw [ba_size]; exact hc)
            rw [show (⟨(pageL id.toNat l (⟨c.toArray⟩ : ByteArray).data.toList).toArray⟩ : ByteArray) = s from es.symm] at this
            exact this
          have hcl : c.length ≤ 240 := (sealE_zero.1 hc).1
          clear es hc h4
          have hz : (⟨c.toArray⟩ : ByteArray).size ≤ 240 := by rw [ba_size]; exact hcl
          generalize (⟨c.toArray⟩ : ByteArray) = C at *
          go_enter Tryd.func5, Tryd.ntmps5
          have D : Hid _ := works_any w TAB.out
          go_wp2_with fail
          refine Calls.mono D.out ?_
          rintro e w1 ⟨rfl, b1⟩
          have B1 : Hid (Below w.heap.size w w1) := b1
          clear b1 D
          have D : Hid _ := Q1.out w1 (TAB.out.below B1.out)
          go_wp2_with fail
          refine Calls.mono D.out ?_
          rintro e w2 ⟨rfl, b2⟩
          have B2 : Hid (Below w.heap.size w w2) := B1.out.trans (b2.mono B1.out.size)
          clear b2 D
          have D : Hid _ := Q2.out w2 (TAB.out.below B2.out)
          go_wp2_with fail
          refine Calls.mono D.out ?_
          rintro e w3 ⟨rfl, b3⟩
          have B3 : Hid (Below w.heap.size w w3) := B2.out.trans (b3.mono B2.out.size)
          clear b3 D
          have D : Hid _ := Q3.out w3 (TAB.out.below B3.out)
          go_wp2_with fail
          refine Calls.mono D.out ?_
          rintro e w4 ⟨rfl, b4⟩
          have B4 : Hid (Below w.heap.size w w4) := B3.out.trans (b4.mono B3.out.size)
          clear b4 D
          have D : Hid _ := Q4.out w4 (TAB.out.below B4.out)
          go_wp2_with fail
          refine Calls.mono D.out ?_
          rintro e w5 ⟨rfl, b5⟩
          have B5 : Hid (Below w.heap.size w w5) := B4.out.trans (b5.mono B4.out.size)
          clear b5 D
          have D : Hid _ := Q5.out w5 (TAB.out.below B5.out)
          go_wp2_with fail
          refine Calls.mono D.out ?_
          rintro e w6 ⟨rfl, b6⟩
          have B6 : Hid (Below w.heap.size w w6) := B5.out.trans (b6.mono B5.out.size)
          clear b6 D
          go_wp2
          go_ret
          exact ⟨rfl, B6.out⟩
        · have Q4 : Hid (∀ w1, Tab w1 → Calls Tryd.prog 11 #[.int .i64 id, .string s] w1 fun e w' => e = .returned (.tuple #[.int .u8 0, .string ⟨#[]⟩, .int .i64 3]) ∧ Below w1.heap.size w1 w') := fun w1 t1 => open_no w1 t1 HS.out (opn_nay h4)
          clear h4
          go_enter Tryd.func5, Tryd.ntmps5
          have D : Hid _ := works_any w TAB.out
          go_wp2_with fail
          refine Calls.mono D.out ?_
          rintro e w1 ⟨rfl, b1⟩
          have B1 : Hid (Below w.heap.size w w1) := b1
          clear b1 D
          have D : Hid _ := Q1.out w1 (TAB.out.below B1.out)
          go_wp2_with fail
          refine Calls.mono D.out ?_
          rintro e w2 ⟨rfl, b2⟩
          have B2 : Hid (Below w.heap.size w w2) := B1.out.trans (b2.mono B1.out.size)
          clear b2 D
          have D : Hid _ := Q2.out w2 (TAB.out.below B2.out)
          go_wp2_with fail
          refine Calls.mono D.out ?_
          rintro e w3 ⟨rfl, b3⟩
          have B3 : Hid (Below w.heap.size w w3) := B2.out.trans (b3.mono B2.out.size)
          clear b3 D
          have D : Hid _ := Q3.out w3 (TAB.out.below B3.out)
          go_wp2_with fail
          refine Calls.mono D.out ?_
          rintro e w4 ⟨rfl, b4⟩
          have B4 : Hid (Below w.heap.size w w4) := B3.out.trans (b4.mono B3.out.size)
          clear b4 D
          have D : Hid _ := Q4.out w4 (TAB.out.below B4.out)
          go_wp2_with fail
          refine Calls.mono D.out ?_
          rintro e w5 ⟨rfl, b5⟩
          have B5 : Hid (Below w.heap.size w w5) := B4.out.trans (b5.mono B4.out.size)
          clear b5 D
          go_wp2
          go_ret
          exact ⟨rfl, B5.out⟩
      · have Q1 : Hid (∀ w1, Tab w1 → Calls Tryd.prog 9 #[.int .i64 id, .int .u8 (k.toNat : Int), .string b] w1 fun e w' => e = .returned (.tuple #[.string ⟨#[]⟩, .int .i64 (sealE id b.size)]) ∧ Below w1.heap.size w1 w') := fun w1 t1 => seal_no w1 t1 HM.out h3
        have hE : (sealE id b.size == 0) = false := beq_eq_false_iff_ne.2 h3
        generalize sealE id b.size = E at *
        clear h3
        by_cases h4 : (opn id s.data.toList).2.2 = 0
        · obtain ⟨l, c, es, hc⟩ := opn_yes h4
          have Q4 : Hid (∀ w1, Tab w1 → Calls Tryd.prog 11 #[.int .i64 id, .string s] w1 fun e w' => e = .returned (.tuple #[.int .u8 (l.toNat : Int), .string ⟨c.toArray⟩, .int .i64 0]) ∧ Below w1.heap.size w1 w') := fun w1 t1 => open_yes w1 t1 es hc
          have Q5 : Hid (∀ w1, Tab w1 → Calls Tryd.prog 9 #[.int .i64 id, .int .u8 (l.toNat : Int), .string ⟨c.toArray⟩] w1 fun e w' => e = .returned (.tuple #[.string s, .int .i64 0]) ∧ Below w1.heap.size w1 w') := fun w1 t1 => by
            have := seal_yes (id := id) (k := l) (b := ⟨c.toArray⟩) w1 t1 (by rw [ba_size]; have := (sealE_zero.1 hc).1; unfold maxLen; omega) (by rw [ba_size]; exact hc)
            rw [show (⟨(pageL id.toNat l (⟨c.toArray⟩ : ByteArray).data.toList).toArray⟩ : ByteArray) = s from es.symm] at this
            exact this
          have hcl : c.length ≤ 240 := (sealE_zero.1 hc).1
          clear es hc h4
          have hz : (⟨c.toArray⟩ : ByteArray).size ≤ 240 := by rw [ba_size]; exact hcl
          generalize (⟨c.toArray⟩ : ByteArray) = C at *
          go_enter Tryd.func5, Tryd.ntmps5
          have D : Hid _ := works_any w TAB.out
          go_wp2_with fail
          refine Calls.mono D.out ?_
          rintro e w1 ⟨rfl, b1⟩
          have B1 : Hid (Below w.heap.size w w1) := b1
          clear b1 D
          have D : Hid _ := Q1.out w1 (TAB.out.below B1.out)
          go_wp2_with fail
          refine Calls.mono D.out ?_
          rintro e w2 ⟨rfl, b2⟩
          have B2 : Hid (Below w.heap.size w w2) := B1.out.trans (b2.mono B1.out.size)
          clear b2 D
          have D : Hid _ := Q4.out w2 (TAB.out.below B2.out)
          go_wp2_with fail
          refine Calls.mono D.out ?_
          rintro e w3 ⟨rfl, b3⟩
          have B3 : Hid (Below w.heap.size w w3) := B2.out.trans (b3.mono B2.out.size)
          clear b3 D
          have D : Hid _ := Q5.out w3 (TAB.out.below B3.out)
          go_wp2_with fail
          refine Calls.mono D.out ?_
          rintro e w4 ⟨rfl, b4⟩
          have B4 : Hid (Below w.heap.size w w4) := B3.out.trans (b4.mono B3.out.size)
          clear b4 D
          go_wp2
          go_ret
          exact ⟨rfl, B4.out⟩
        · have Q4 : Hid (∀ w1, Tab w1 → Calls Tryd.prog 11 #[.int .i64 id, .string s] w1 fun e w' => e = .returned (.tuple #[.int .u8 0, .string ⟨#[]⟩, .int .i64 3]) ∧ Below w1.heap.size w1 w') := fun w1 t1 => open_no w1 t1 HS.out (opn_nay h4)
          clear h4
          go_enter Tryd.func5, Tryd.ntmps5
          have D : Hid _ := works_any w TAB.out
          go_wp2_with fail
          refine Calls.mono D.out ?_
          rintro e w1 ⟨rfl, b1⟩
          have B1 : Hid (Below w.heap.size w w1) := b1
          clear b1 D
          have D : Hid _ := Q1.out w1 (TAB.out.below B1.out)
          go_wp2_with fail
          refine Calls.mono D.out ?_
          rintro e w2 ⟨rfl, b2⟩
          have B2 : Hid (Below w.heap.size w w2) := B1.out.trans (b2.mono B1.out.size)
          clear b2 D
          have D : Hid _ := Q4.out w2 (TAB.out.below B2.out)
          go_wp2_with fail
          refine Calls.mono D.out ?_
          rintro e w3 ⟨rfl, b3⟩
          have B3 : Hid (Below w.heap.size w w3) := B2.out.trans (b3.mono B2.out.size)
          clear b3 D
          go_wp2
          go_ret
          exact ⟨rfl, B3.out⟩

theorem back_walk (id k : Int) (b s : ByteArray) (w : World) (T : Tab w) (_ : -9223372036854775808 ≤ id ∧ id ≤ 9223372036854775807) (hk : 0 ≤ k ∧ k ≤ 255) (hm : b.size ≤ maxLen) (hs : s.size ≤ maxLen) :
    Calls Tryd.prog 5 #[.int .i64 id, .int .u8 k, .string b, .string s] w fun e w' => e = .returned (.bool true) ∧ Below w.heap.size w w' := by
  obtain ⟨x, rfl⟩ := byte_of k hk
  exact back_in id x b s w T hm hs

end Go.Proofs.YtgcaffgdceljaaaDoor

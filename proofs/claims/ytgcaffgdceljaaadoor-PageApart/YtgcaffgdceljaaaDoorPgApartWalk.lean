/-
  The walk of the law PageApart: unlike pages have unlike bytes.
-/
import Derived.Test.YtgcaffgdceljaaaDoorPgUse
namespace Go.Proofs.YtgcaffgdceljaaaDoor
open Go.RowKit

set_option maxRecDepth 100000 in
set_option maxHeartbeats 4000000 in
theorem apart_in (id : Int) (k : UInt8) (b : ByteArray) (jd : Int) (l : UInt8) (c : ByteArray) (w : World) (T : Tab w) (hm : b.size ≤ maxLen) (hs : c.size ≤ maxLen) :
    Calls Tryd.prog 7 #[.int .i64 id, .int .u8 (k.toNat : Int), .string b, .int .i64 jd, .int .u8 (l.toNat : Int), .string c] w fun e w' => e = .returned (.bool true) ∧ Below w.heap.size w w' := by
  have TAB : Hid (Tab w) := T
  have HM : Hid (b.size ≤ maxLen) := hm
  have HS : Hid (c.size ≤ maxLen) := hs
  unfold maxLen at hm hs
  clear T
  by_cases h1 : 2048 < b.size
  · go_enter Tryd.func7, Tryd.ntmps7
    have D : Hid _ := works_any w TAB.out
    go_wp2_with fail
    refine Calls.mono D.out ?_
    rintro e w1 ⟨rfl, b1⟩
    have B1 : Hid (Below w.heap.size w w1) := b1
    clear b1 D
    go_wp2
    go_ret
    exact ⟨rfl, B1.out⟩
  · by_cases h2 : 2048 < c.size
    · go_enter Tryd.func7, Tryd.ntmps7
      have D : Hid _ := works_any w TAB.out
      go_wp2_with fail
      refine Calls.mono D.out ?_
      rintro e w1 ⟨rfl, b1⟩
      have B1 : Hid (Below w.heap.size w w1) := b1
      clear b1 D
      go_wp2
      go_ret
      exact ⟨rfl, B1.out⟩
    · by_cases h3 : sealE id b.size = 0
      · by_cases h4 : sealE jd c.size = 0
        · have Q1 : Hid (∀ w1, Tab w1 → Calls Tryd.prog 9 #[.int .i64 id, .int .u8 (k.toNat : Int), .string b] w1 fun e w' => e = .returned (.tuple #[.string ⟨(pageL id.toNat k b.data.toList).toArray⟩, .int .i64 0]) ∧ Below w1.heap.size w1 w') := fun w1 t1 => seal_yes w1 t1 HM.out h3
          have Q2 : Hid (∀ w1, Tab w1 → Calls Tryd.prog 9 #[.int .i64 jd, .int .u8 (l.toNat : Int), .string c] w1 fun e w' => e = .returned (.tuple #[.string ⟨(pageL jd.toNat l c.data.toList).toArray⟩, .int .i64 0]) ∧ Below w1.heap.size w1 w') := fun w1 t1 => seal_yes w1 t1 HS.out h4
          have INJ : Hid ((⟨(pageL id.toNat k b.data.toList).toArray⟩ : ByteArray) = ⟨(pageL jd.toNat l c.data.toList).toArray⟩ → id = jd ∧ k = l ∧ b = c) := fun e => by
            have e2 : pageL id.toNat k b.data.toList = pageL jd.toNat l c.data.toList := congrArg (fun x : ByteArray => x.data.toList) e
            obtain ⟨a1, a2, a3⟩ := sealE_zero.1 h3
            obtain ⟨c1, c2, c3⟩ := sealE_zero.1 h4
            obtain ⟨d1, d2, d3⟩ := pageL_inj (by omega) (by omega) (by simpa using a1) (by simpa using c1) e2
            exact ⟨by omega, d2, ba_ext d3⟩
          have hP : (⟨(pageL id.toNat k b.data.toList).toArray⟩ : ByteArray).size = 256 := by rw [ba_size, pageL_length _ _ _ (by simpa using (sealE_zero.1 h3).1)]
          have hR : (⟨(pageL jd.toNat l c.data.toList).toArray⟩ : ByteArray).size = 256 := by rw [ba_size, pageL_length _ _ _ (by simpa using (sealE_zero.1 h4).1)]
          clear h3 h4
          by_cases g1 : id = jd
          · subst g1
            by_cases g2 : k = l
            · subst g2
              by_cases g3 : b = c
              · subst g3
                clear INJ
                generalize (⟨(pageL id.toNat k b.data.toList).toArray⟩ : ByteArray) = G at *
                go_enter Tryd.func7, Tryd.ntmps7
                have D : Hid _ := works_any w TAB.out
                go_wp2_with fail
                refine Calls.mono D.out ?_
                rintro e w1 ⟨rfl, b1⟩
                have B1 : Hid (Below w.heap.size w w1) := b1
                clear b1 D
                have D : Hid _ := Q1.out w1 (TAB.out.below B1.out)
                go_wp2_with fail
                refine Calls.mono D.out ?_
                rintro e w2 ⟨rfl, b2⟩
                have B2 : Hid (Below w.heap.size w w2) := B1.out.trans (b2.mono B1.out.size)
                clear b2 D
                have D : Hid _ := Q2.out w2 (TAB.out.below B2.out)
                go_wp2_with fail
                refine Calls.mono D.out ?_
                rintro e w3 ⟨rfl, b3⟩
                have B3 : Hid (Below w.heap.size w w3) := B2.out.trans (b3.mono B2.out.size)
                clear b3 D
                go_wp2
                go_ret
                exact ⟨rfl, B3.out⟩
              · have hbc := str_ne g3
                have hne := str_ne (fun e => g3 (INJ.out e).2.2)
                clear INJ
                generalize (⟨(pageL id.toNat k b.data.toList).toArray⟩ : ByteArray) = G at *
                generalize (⟨(pageL id.toNat k c.data.toList).toArray⟩ : ByteArray) = H at *
                clear g3
                go_enter Tryd.func7, Tryd.ntmps7
                have D : Hid _ := works_any w TAB.out
                go_wp2_with fail
                refine Calls.mono D.out ?_
                rintro e w1 ⟨rfl, b1⟩
                have B1 : Hid (Below w.heap.size w w1) := b1
                clear b1 D
                have D : Hid _ := Q1.out w1 (TAB.out.below B1.out)
                go_wp2_with fail
                refine Calls.mono D.out ?_
                rintro e w2 ⟨rfl, b2⟩
                have B2 : Hid (Below w.heap.size w w2) := B1.out.trans (b2.mono B1.out.size)
                clear b2 D
                have D : Hid _ := Q2.out w2 (TAB.out.below B2.out)
                go_wp2_with fail
                refine Calls.mono D.out ?_
                rintro e w3 ⟨rfl, b3⟩
                have B3 : Hid (Below w.heap.size w w3) := B2.out.trans (b3.mono B2.out.size)
                clear b3 D
                go_wp2
                go_ret
                exact ⟨rfl, B3.out⟩
            · have hkl : ((k.toNat : Int) == (l.toNat : Int)) = false := by
                rw [beq_eq_false_iff_ne]
                intro e
                exact g2 (UInt8.toNat_inj.1 (by omega))
              have hne := str_ne (fun e => g2 (INJ.out e).2.1)
              clear INJ
              generalize (⟨(pageL id.toNat k b.data.toList).toArray⟩ : ByteArray) = G at *
              generalize (⟨(pageL id.toNat l c.data.toList).toArray⟩ : ByteArray) = H at *
              clear g2
              go_enter Tryd.func7, Tryd.ntmps7
              have D : Hid _ := works_any w TAB.out
              go_wp2_with fail
              refine Calls.mono D.out ?_
              rintro e w1 ⟨rfl, b1⟩
              have B1 : Hid (Below w.heap.size w w1) := b1
              clear b1 D
              have D : Hid _ := Q1.out w1 (TAB.out.below B1.out)
              go_wp2_with fail
              refine Calls.mono D.out ?_
              rintro e w2 ⟨rfl, b2⟩
              have B2 : Hid (Below w.heap.size w w2) := B1.out.trans (b2.mono B1.out.size)
              clear b2 D
              have D : Hid _ := Q2.out w2 (TAB.out.below B2.out)
              go_wp2_with fail
              refine Calls.mono D.out ?_
              rintro e w3 ⟨rfl, b3⟩
              have B3 : Hid (Below w.heap.size w w3) := B2.out.trans (b3.mono B2.out.size)
              clear b3 D
              go_wp2
              go_ret
              exact ⟨rfl, B3.out⟩
          · have hij : (id == jd) = false := beq_eq_false_iff_ne.2 g1
            have hne := str_ne (fun e => g1 (INJ.out e).1)
            clear INJ
            generalize (⟨(pageL id.toNat k b.data.toList).toArray⟩ : ByteArray) = G at *
            generalize (⟨(pageL jd.toNat l c.data.toList).toArray⟩ : ByteArray) = H at *
            clear g1
            go_enter Tryd.func7, Tryd.ntmps7
            have D : Hid _ := works_any w TAB.out
            go_wp2_with fail
            refine Calls.mono D.out ?_
            rintro e w1 ⟨rfl, b1⟩
            have B1 : Hid (Below w.heap.size w w1) := b1
            clear b1 D
            have D : Hid _ := Q1.out w1 (TAB.out.below B1.out)
            go_wp2_with fail
            refine Calls.mono D.out ?_
            rintro e w2 ⟨rfl, b2⟩
            have B2 : Hid (Below w.heap.size w w2) := B1.out.trans (b2.mono B1.out.size)
            clear b2 D
            have D : Hid _ := Q2.out w2 (TAB.out.below B2.out)
            go_wp2_with fail
            refine Calls.mono D.out ?_
            rintro e w3 ⟨rfl, b3⟩
            have B3 : Hid (Below w.heap.size w w3) := B2.out.trans (b3.mono B2.out.size)
            clear b3 D
            go_wp2
            go_ret
            exact ⟨rfl, B3.out⟩
        · have Q1 : Hid (∀ w1, Tab w1 → Calls Tryd.prog 9 #[.int .i64 id, .int .u8 (k.toNat : Int), .string b] w1 fun e w' => e = .returned (.tuple #[.string ⟨(pageL id.toNat k b.data.toList).toArray⟩, .int .i64 0]) ∧ Below w1.heap.size w1 w') := fun w1 t1 => seal_yes w1 t1 HM.out h3
          have Q2 : Hid (∀ w1, Tab w1 → Calls Tryd.prog 9 #[.int .i64 jd, .int .u8 (l.toNat : Int), .string c] w1 fun e w' => e = .returned (.tuple #[.string ⟨#[]⟩, .int .i64 (sealE jd c.size)]) ∧ Below w1.heap.size w1 w') := fun w1 t1 => seal_no w1 t1 HS.out h4
          have hE : (sealE jd c.size != 0) = true := by rw [bne_iff_ne]; exact h4
          generalize sealE jd c.size = E at *
          generalize (⟨(pageL id.toNat k b.data.toList).toArray⟩ : ByteArray) = G at *
          clear h3 h4
          go_enter Tryd.func7, Tryd.ntmps7
          have D : Hid _ := works_any w TAB.out
          go_wp2_with fail
          refine Calls.mono D.out ?_
          rintro e w1 ⟨rfl, b1⟩
          have B1 : Hid (Below w.heap.size w w1) := b1
          clear b1 D
          have D : Hid _ := Q1.out w1 (TAB.out.below B1.out)
          go_wp2_with fail
          refine Calls.mono D.out ?_
          rintro e w2 ⟨rfl, b2⟩
          have B2 : Hid (Below w.heap.size w w2) := B1.out.trans (b2.mono B1.out.size)
          clear b2 D
          have D : Hid _ := Q2.out w2 (TAB.out.below B2.out)
          go_wp2_with fail
          refine Calls.mono D.out ?_
          rintro e w3 ⟨rfl, b3⟩
          have B3 : Hid (Below w.heap.size w w3) := B2.out.trans (b3.mono B2.out.size)
          clear b3 D
          go_wp2
          go_ret
          exact ⟨rfl, B3.out⟩
      · have Q1 : Hid (∀ w1, Tab w1 → Calls Tryd.prog 9 #[.int .i64 id, .int .u8 (k.toNat : Int), .string b] w1 fun e w' => e = .returned (.tuple #[.string ⟨#[]⟩, .int .i64 (sealE id b.size)]) ∧ Below w1.heap.size w1 w') := fun w1 t1 => seal_no w1 t1 HM.out h3
        have Q2 : Hid (∀ w1, Tab w1 → Calls Tryd.prog 9 #[.int .i64 jd, .int .u8 (l.toNat : Int), .string c] w1 fun e w' => e = .returned (.tuple #[.string ⟨(sealS jd l c.data.toList).toArray⟩, .int .i64 (sealE jd c.size)]) ∧ Below w1.heap.size w1 w') := fun w1 t1 => seal_any jd l c w1 t1 HS.out
        have hE : (sealE id b.size != 0) = true := by rw [bne_iff_ne]; exact h3
        generalize sealE id b.size = E at *
        generalize sealE jd c.size = F at *
        generalize (⟨(sealS jd l c.data.toList).toArray⟩ : ByteArray) = G at *
        clear h3
        go_enter Tryd.func7, Tryd.ntmps7
        have D : Hid _ := works_any w TAB.out
        go_wp2_with fail
        refine Calls.mono D.out ?_
        rintro e w1 ⟨rfl, b1⟩
        have B1 : Hid (Below w.heap.size w w1) := b1
        clear b1 D
        have D : Hid _ := Q1.out w1 (TAB.out.below B1.out)
        go_wp2_with fail
        refine Calls.mono D.out ?_
        rintro e w2 ⟨rfl, b2⟩
        have B2 : Hid (Below w.heap.size w w2) := B1.out.trans (b2.mono B1.out.size)
        clear b2 D
        have D : Hid _ := Q2.out w2 (TAB.out.below B2.out)
        go_wp2_with fail
        refine Calls.mono D.out ?_
        rintro e w3 ⟨rfl, b3⟩
        have B3 : Hid (Below w.heap.size w w3) := B2.out.trans (b3.mono B2.out.size)
        clear b3 D
        go_wp2
        go_ret
        exact ⟨rfl, B3.out⟩

theorem apart_walk (id k : Int) (b : ByteArray) (jd l : Int) (c : ByteArray) (w : World) (T : Tab w) (_ : -9223372036854775808 ≤ id ∧ id ≤ 9223372036854775807) (hk : 0 ≤ k ∧ k ≤ 255) (hm : b.size ≤ maxLen) (_ : -9223372036854775808 ≤ jd ∧ jd ≤ 9223372036854775807) (hl : 0 ≤ l ∧ l ≤ 255) (hs : c.size ≤ maxLen) :
    Calls Tryd.prog 7 #[.int .i64 id, .int .u8 k, .string b, .int .i64 jd, .int .u8 l, .string c] w fun e w' => e = .returned (.bool true) ∧ Below w.heap.size w w' := by
  obtain ⟨x, rfl⟩ := byte_of k hk
  obtain ⟨y, rfl⟩ := byte_of l hl
  exact apart_in id x b jd y c w T hm hs

end Go.Proofs.YtgcaffgdceljaaaDoor

/-
  The walk of the law PageHarm: a page that is another one in at most four bytes in a row is not opened any more; nor is one that is asked by another number.
-/
import Derived.Test.YtgcaffgdceljaaaDoorPgBytes
namespace Go.Proofs.YtgcaffgdceljaaaDoor
open Go.RowKit

set_option maxRecDepth 100000 in
set_option maxHeartbeats 4000000 in
theorem harm_out (id : Int) (kd : UInt8) (bd : ByteArray) (at_ : Int) (a b c d : UInt8) (other : Int) (w : World) (T : Tab w) (hm : bd.size ≤ maxLen) (h : 2048 < bd.size ∨ sealE id bd.size ≠ 0) :
    Calls Tryd.prog 6 #[.int .i64 id, .int .u8 (kd.toNat : Int), .string bd, .int .i64 at_, .int .u8 (a.toNat : Int), .int .u8 (b.toNat : Int), .int .u8 (c.toNat : Int), .int .u8 (d.toNat : Int), .int .i64 other] w fun e w' => e = .returned (.bool true) ∧ Below w.heap.size w w' := by
  have TAB : Hid (Tab w) := T
  have HM : Hid (bd.size ≤ maxLen) := hm
  unfold maxLen at hm
  clear T
  by_cases h1 : 2048 < bd.size
  · clear h
    go_enter Tryd.func6, Tryd.ntmps6
    have D : Hid _ := works_any w TAB.out
    go_wp2_with fail
    refine Calls.mono D.out ?_
    rintro e w1 ⟨rfl, b1⟩
    have B1 : Hid (Below w.heap.size w w1) := b1
    clear b1 D
    go_wp2
    go_ret
    exact ⟨rfl, B1.out⟩
  · have h3 : sealE id bd.size ≠ 0 := h.resolve_left h1
    clear h
    have Q1 : Hid (∀ w1, Tab w1 → Calls Tryd.prog 9 #[.int .i64 id, .int .u8 (kd.toNat : Int), .string bd] w1 fun e w' => e = .returned (.tuple #[.string ⟨#[]⟩, .int .i64 (sealE id bd.size)]) ∧ Below w1.heap.size w1 w') := fun w1 t1 => seal_no w1 t1 HM.out h3
    have hE : (sealE id bd.size != 0) = true := by rw [bne_iff_ne]; exact h3
    generalize sealE id bd.size = E at *
    clear h3
    go_enter Tryd.func6, Tryd.ntmps6
    have D : Hid _ := works_any w TAB.out
    go_wp2_with fail
    refine Calls.mono D.out ?_
    rintro e w1 ⟨rfl, b1⟩
    have B1 : Hid (Below w.heap.size w w1) := b1
    clear b1 D
    have D : Hid _ := Q1.out w1 (TAB.out.below B1.out)
    go_wp2_with fail
    refine Calls.mono D.out ?_
    rintro e w2 ⟨rfl, b2⟩
    have B2 : Hid (Below w.heap.size w w2) := B1.out.trans (b2.mono B1.out.size)
    clear b2 D
    go_wp2
    go_ret
    exact ⟨rfl, B2.out⟩

set_option maxRecDepth 100000 in
set_option maxHeartbeats 4000000 in
theorem harm_in (id : Int) (kd : UInt8) (bd : ByteArray) (at_ : Int) (a b c d : UInt8) (other : Int) (w : World) (T : Tab w) (hm : bd.size ≤ maxLen) (h1 : ¬ 2048 < bd.size) (h3 : sealE id bd.size = 0) :
    Calls Tryd.prog 6 #[.int .i64 id, .int .u8 (kd.toNat : Int), .string bd, .int .i64 at_, .int .u8 (a.toNat : Int), .int .u8 (b.toNat : Int), .int .u8 (c.toNat : Int), .int .u8 (d.toNat : Int), .int .i64 other] w fun e w' => e = .returned (.bool true) ∧ Below w.heap.size w w' := by
  have TAB : Hid (Tab w) := T
  have HM : Hid (bd.size ≤ maxLen) := hm
  unfold maxLen at hm
  clear T
  have Q1 : Hid (∀ w1, Tab w1 → Calls Tryd.prog 9 #[.int .i64 id, .int .u8 (kd.toNat : Int), .string bd] w1 fun e w' => e = .returned (.tuple #[.string ⟨(pageL id.toNat kd bd.data.toList).toArray⟩, .int .i64 0]) ∧ Below w1.heap.size w1 w') := fun w1 t1 => seal_yes w1 t1 HM.out h3
  have hbl : bd.data.toList.length = bd.size := by simp
  have h3' : sealE id bd.data.toList.length = 0 := by rw [hbl]; exact h3
  obtain ⟨f, X, Y, g, ef, eg, Q2⟩ : ∃ (f : Bool) (X : Int) (Y : ByteArray) (g : Int), (other == id) = f ∧ (g == 0) = f ∧ Hid (∀ w1, Tab w1 → Calls Tryd.prog 11 #[.int .i64 other, .string ⟨(pageL id.toNat kd bd.data.toList).toArray⟩] w1 fun e w' => e = .returned (.tuple #[.int .u8 X, .string Y, .int .i64 g]) ∧ Below w1.heap.size w1 w') := by
    by_cases ho : other = id
    · subst ho
      exact ⟨true, _, _, 0, by simp, by simp, fun w1 t1 => open_yes w1 t1 rfl h3'⟩
    · exact ⟨false, _, _, 3, by simp [ho], by simp, fun w1 t1 => open_no w1 t1 (by rw [ba_size, pageL_length _ _ _ (sealE_zero.1 h3').1]; decide) (opn_not h3' ho)⟩
  have hG : (⟨(pageL id.toNat kd bd.data.toList).toArray⟩ : ByteArray).size = 256 := by rw [ba_size, pageL_length _ _ _ (sealE_zero.1 h3').1]
  have CH : Hid (∀ p q x0 x1 x2 x3, (⟨(pageL id.toNat kd bd.data.toList).toArray⟩ : ByteArray).data.toList = p ++ x0 :: x1 :: x2 :: x3 :: q → ¬ (a = 0 ∧ b = 0 ∧ c = 0 ∧ d = 0) → (p = [] ∨ 4 ≤ p.length) → chk (p ++ (x0 ^^^ a) :: (x1 ^^^ b) :: (x2 ^^^ c) :: (x3 ^^^ d) :: q) = false) := fun p q x0 x1 x2 x3 e h hp => chk_harm id.toNat kd bd.data.toList p q x0 x1 x2 x3 a b c d h e hp
  generalize (⟨(pageL id.toNat kd bd.data.toList).toArray⟩ : ByteArray) = G at *
  clear h3 h3' hbl
  obtain ⟨fa, ea⟩ : ∃ f, ((a.toNat : Int) == 0) = f := ⟨_, rfl⟩
  obtain ⟨fb, eb⟩ : ∃ f, ((b.toNat : Int) == 0) = f := ⟨_, rfl⟩
  obtain ⟨fc, ec⟩ : ∃ f, ((c.toNat : Int) == 0) = f := ⟨_, rfl⟩
  obtain ⟨fd, ed⟩ : ∃ f, ((d.toNat : Int) == 0) = f := ⟨_, rfl⟩
  go_enter Tryd.func6, Tryd.ntmps6
  have D : Hid _ := works_any w TAB.out
  go_wp2_with fail
  refine Calls.mono D.out ?_
  rintro e w1 ⟨rfl, b1⟩
  have B1 : Hid (Below w.heap.size w w1) := b1
  clear b1 D
  have D : Hid _ := Q1.out w1 (TAB.out.below B1.out)
  go_wp2_with fail
  refine Calls.mono D.out ?_
  rintro e w2 ⟨rfl, b2⟩
  have B2 : Hid (Below w.heap.size w w2) := B1.out.trans (b2.mono B1.out.size)
  clear b2 D
  have D : Hid _ := Q2.out w2 (TAB.out.below B2.out)
  go_wp2_with fail
  refine Calls.mono D.out ?_
  rintro e w3 ⟨rfl, b3⟩
  have B3 : Hid (Below w.heap.size w w3) := B2.out.trans (b3.mono B2.out.size)
  clear b3 D
  clear Q1 Q2
  go_upto_region 14 with fail
  go_cut [76] (fun t wx => t = .bool (fa && fb && fc && fd) ∧ wx = w3)
  case first =>
    go_wp2_with fail
    all_goals go_meet
    all_goals (refine ⟨congrArg Value.bool ?_, rfl⟩; simp_all)
  case rest =>
  obtain ⟨rfl, rfl⟩ := hcut
  cases hz : (fa && fb && fc && fd)
  · go_upto_region 16 with fail
    go_cut [25] (fun t wx => (∃ k : Nat, t = .int .i64 k ∧ k + 4 ≤ 256) ∧ wx = wc)
    case first =>
      go_wp2_with fail
      all_goals go_meet
      exact ⟨⟨(min (max at_ 0) 252).toNat, congrArg _ (by omega), by omega⟩, rfl⟩
    case rest =>
    obtain ⟨⟨k1, rfl, hk1⟩, rfl⟩ := hcut
    go_upto_region 17 with fail
    go_cut [89] (fun t wx => t = .bool (decide (0 < k1 ∧ k1 < 4)) ∧ wx = wc)
    case first =>
      by_cases g1 : 0 < k1
      · by_cases g2 : k1 < 4
        · have e1 : (0 : Int) < (k1 : Int) := by omega
          have e2 : (k1 : Int) < 4 := by omega
          go_wp2_with fail
          go_meet
          exact ⟨congrArg Value.bool (by simp [g1, g2]), rfl⟩
        · have e1 : (0 : Int) < (k1 : Int) := by omega
          have e2 : ¬ (k1 : Int) < 4 := by omega
          go_wp2_with fail
          go_meet
          exact ⟨congrArg Value.bool (by simp [g2]), rfl⟩
      · have e1 : ¬ (0 : Int) < (k1 : Int) := by omega
        go_wp2_with fail
        go_meet
        exact ⟨congrArg Value.bool (by simp [g1]), rfl⟩
    case rest =>
    obtain ⟨rfl, rfl⟩ := hcut
    go_upto_if 89 with fail
    go_cut [25] (fun t wx => (∃ k : Nat, t = .int .i64 k ∧ k + 4 ≤ 256 ∧ (k = 0 ∨ 4 ≤ k)) ∧ wx = wc)
    case first =>
      by_cases g1 : 0 < k1 ∧ k1 < 4
      · rw [decide_eq_true g1]
        go_wp2_with fail
        go_meet
        exact ⟨⟨0, rfl, by omega, .inl rfl⟩, rfl⟩
      · rw [decide_eq_false g1]
        go_wp2_with fail
        go_meet
        exact ⟨⟨k1, rfl, hk1, by omega⟩, rfl⟩
    case rest =>
    obtain ⟨⟨k, rfl, hk, hk4⟩, rfl⟩ := hcut
    clear hk1 k1
    obtain ⟨p, q, x0, x1, x2, x3, hp, es⟩ := four_of G.data.toList k (by simpa [hG] using hk)
    obtain ⟨V, cap, hcv, B1', BY⟩ := made G wc
    rw [es] at BY
    have NC : Hid (chk (p ++ (x0 ^^^ a) :: (x1 ^^^ b) :: (x2 ^^^ c) :: (x3 ^^^ d) :: q) = false) := CH.out p q x0 x1 x2 x3 es (by rintro ⟨rfl, rfl, rfl, rfl⟩; subst ea eb ec ed; simp at hz) (by
      rcases hk4 with h0 | h4
      · left; exact List.length_eq_zero_iff.1 (by omega)
      · right; omega)
    obtain ⟨v0, hv0⟩ : ∃ v, (x0 ^^^ a).toNat = v := ⟨_, rfl⟩
    obtain ⟨v1, hv1⟩ : ∃ v, (x1 ^^^ b).toNat = v := ⟨_, rfl⟩
    obtain ⟨v2, hv2⟩ : ∃ v, (x2 ^^^ c).toNat = v := ⟨_, rfl⟩
    obtain ⟨v3, hv3⟩ : ∃ v, (x3 ^^^ d).toNat = v := ⟨_, rfl⟩
    have e0 : bits .xor .u8 (x0.toNat : Int) (a.toNat : Int) = (v0 : Int) := by rw [u8_xor_nat _ _ x0.toNat_lt a.toNat_lt, ← hv0, UInt8.toNat_xor]
    have e1 : bits .xor .u8 (x1.toNat : Int) (b.toNat : Int) = (v1 : Int) := by rw [u8_xor_nat _ _ x1.toNat_lt b.toNat_lt, ← hv1, UInt8.toNat_xor]
    have e2 : bits .xor .u8 (x2.toNat : Int) (c.toNat : Int) = (v2 : Int) := by rw [u8_xor_nat _ _ x2.toNat_lt c.toNat_lt, ← hv2, UInt8.toNat_xor]
    have e3 : bits .xor .u8 (x3.toNat : Int) (d.toNat : Int) = (v3 : Int) := by rw [u8_xor_nat _ _ x3.toNat_lt d.toNat_lt, ← hv3, UInt8.toNat_xor]
    obtain ⟨c0, f0⟩ := BY.at hp
    obtain ⟨c1, f1⟩ := Bytes.at (p := p ++ [x0]) (x := x1) (k := k + 1) (by simpa only [List.append_assoc, List.cons_append, List.nil_append] using BY) (by simp [hp])
    obtain ⟨c2, f2⟩ := Bytes.at (p := p ++ [x0, x1]) (x := x2) (k := k + 2) (by simpa only [List.append_assoc, List.cons_append, List.nil_append] using BY) (by simp [hp])
    obtain ⟨c3, f3⟩ := Bytes.at (p := p ++ [x0, x1, x2]) (x := x3) (k := k + 3) (by simpa only [List.append_assoc, List.cons_append, List.nil_append] using BY) (by simp [hp])
    have BY1 := BY.put hp (x0 ^^^ a) v0 hv0
    have BY2 := Bytes.put (p := p ++ [x0 ^^^ a]) (q := x2 :: x3 :: q) (x := x1) (k := k + 1) (by simpa only [List.append_assoc, List.cons_append, List.nil_append] using BY1) (by simp [hp]) (x1 ^^^ b) v1 hv1
    have BY3 := Bytes.put (p := p ++ [x0 ^^^ a, x1 ^^^ b]) (q := x3 :: q) (x := x2) (k := k + 2) (by simpa only [List.append_assoc, List.cons_append, List.nil_append] using BY2) (by simp [hp]) (x2 ^^^ c) v2 hv2
    have BY4 := Bytes.put (p := p ++ [x0 ^^^ a, x1 ^^^ b, x2 ^^^ c]) (q := q) (x := x3) (k := k + 3) (by simpa only [List.append_assoc, List.cons_append, List.nil_append] using BY3) (by simp [hp]) (x3 ^^^ d) v3 hv3
    simp only [List.append_assoc, List.cons_append, List.nil_append] at BY4
    have hLen : (p ++ (x0 ^^^ a) :: (x1 ^^^ b) :: (x2 ^^^ c) :: (x3 ^^^ d) :: q).length = G.size := by have := congrArg List.length es; simp at this ⊢; omega
    have hback := BY4.back G.size cap hLen.symm
    rw [hG] at hback
    have hB4 : Below wc.heap.size wc _ := ((((B1'.setCell (Nat.le_refl _) _).setCell (Nat.le_refl _) _).setCell (Nat.le_refl _) _).setCell (Nat.le_refl _) _ : Below wc.heap.size wc ((((V.setCell ⟨wc.heap.size, k, none⟩ (.int .u8 (v0 : Int))).setCell ⟨wc.heap.size, k + 1, none⟩ (.int .u8 (v1 : Int))).setCell ⟨wc.heap.size, k + 2, none⟩ (.int .u8 (v2 : Int))).setCell ⟨wc.heap.size, k + 3, none⟩ (.int .u8 (v3 : Int))))
    have F4 : Hid _ := hB4
    have hmT : (⟨(p ++ (x0 ^^^ a) :: (x1 ^^^ b) :: (x2 ^^^ c) :: (x3 ^^^ d) :: q).toArray⟩ : ByteArray).size ≤ maxLen := by rw [ba_size, hLen, hG]; decide
    have C1 : Hid (∀ w1, Tab w1 → Calls Tryd.prog 11 #[.int .i64 id, .string ⟨(p ++ (x0 ^^^ a) :: (x1 ^^^ b) :: (x2 ^^^ c) :: (x3 ^^^ d) :: q).toArray⟩] w1 fun e w' => e = .returned (.tuple #[.int .u8 0, .string ⟨#[]⟩, .int .i64 3]) ∧ Below w1.heap.size w1 w') := fun w1 t1 => open_no w1 t1 hmT (opn_of_chk NC.out)
    have C2 : Hid (∀ w1, Tab w1 → Calls Tryd.prog 13 #[.string ⟨(p ++ (x0 ^^^ a) :: (x1 ^^^ b) :: (x2 ^^^ c) :: (x3 ^^^ d) :: q).toArray⟩] w1 fun e w' => e = .returned (.bool false) ∧ Below w1.heap.size w1 w') := fun w1 t1 => by
      have := check_any ⟨(p ++ (x0 ^^^ a) :: (x1 ^^^ b) :: (x2 ^^^ c) :: (x3 ^^^ d) :: q).toArray⟩ w1 t1 hmT
      rw [NC.out] at this
      exact this
    have BY5 : Hid (∀ w1, Below V.heap.size ((((V.setCell ⟨wc.heap.size, k, none⟩ (.int .u8 (v0 : Int))).setCell ⟨wc.heap.size, k + 1, none⟩ (.int .u8 (v1 : Int))).setCell ⟨wc.heap.size, k + 2, none⟩ (.int .u8 (v2 : Int))).setCell ⟨wc.heap.size, k + 3, none⟩ (.int .u8 (v3 : Int))) w1 → Sem.run Tryd.prog (convert 37 9 (.slice (some ⟨wc.heap.size, 0, none⟩) G.size cap)) w1 = .ok (.string ⟨(p ++ (x0 ^^^ a) :: (x1 ^^^ b) :: (x2 ^^^ c) :: (x3 ^^^ d) :: q).toArray⟩) w1) := fun w1 h1 => (BY4.below (by simpa using h1)).back G.size cap hLen.symm
    have T4 := TAB.out.below (B3.out.trans (hB4.mono B3.out.size))
    have D1 : Hid _ := C1.out _ T4
    rw [show ((((V.setCell ⟨wc.heap.size, k, none⟩ (.int .u8 (v0 : Int))).setCell ⟨wc.heap.size, k + 1, none⟩ (.int .u8 (v1 : Int))).setCell ⟨wc.heap.size, k + 2, none⟩ (.int .u8 (v2 : Int))).setCell ⟨wc.heap.size, k + 3, none⟩ (.int .u8 (v3 : Int))).heap.size = V.heap.size by simp] at D1
    have hk0 : (k : Int) < G.size := by omega
    have hk1 : (k : Int) + 1 < G.size := by omega
    have hk2 : (k : Int) + 2 < G.size := by omega
    have hk3 : (k : Int) + 3 < G.size := by omega
    have vs : Hid (wc.heap.size ≤ V.heap.size) := B1'.size
    clear BY BY1 BY2 BY3 BY4 hv0 hv1 hv2 hv3 B1' hB4 ea eb ec ed hz es hLen hmT NC CH T4 C1
    generalize (⟨(p ++ (x0 ^^^ a) :: (x1 ^^^ b) :: (x2 ^^^ c) :: (x3 ^^^ d) :: q).toArray⟩ : ByteArray) = t at *
    go_wp2_with fail
    refine Calls.mono D1.out ?_
    rintro e w5 ⟨rfl, b5⟩
    have hb5 := BY5.out w5 b5
    have B5 : Hid (Below wc.heap.size wc w5) := F4.out.trans (b5.mono vs.out)
    have D2 : Hid _ := C2.out w5 (TAB.out.below (B3.out.trans (B5.out.mono B3.out.size)))
    rw [hG] at hb5
    clear b5 hcv hback D1 BY5
    go_wp2_with fail
    refine Calls.mono D2.out ?_
    rintro e w6 ⟨rfl, b6⟩
    have B6 : Hid (Below wc.heap.size wc w6) := B5.out.trans (b6.mono B5.out.size)
    clear b6 D2
    go_wp2
    go_ret
    exact ⟨rfl, B3.out.trans (B6.out.mono B3.out.size)⟩
  · go_wp2
    go_ret
    exact ⟨rfl, B3.out⟩

theorem harm_walk (id k : Int) (bd : ByteArray) (at_ a b c d other : Int) (w : World) (T : Tab w) (_ : -9223372036854775808 ≤ id ∧ id ≤ 9223372036854775807) (hk : 0 ≤ k ∧ k ≤ 255) (hm : bd.size ≤ maxLen) (_ : -9223372036854775808 ≤ at_ ∧ at_ ≤ 9223372036854775807) (ha : 0 ≤ a ∧ a ≤ 255) (hb : 0 ≤ b ∧ b ≤ 255) (hc : 0 ≤ c ∧ c ≤ 255) (hd : 0 ≤ d ∧ d ≤ 255) (_ : -9223372036854775808 ≤ other ∧ other ≤ 9223372036854775807) :
    Calls Tryd.prog 6 #[.int .i64 id, .int .u8 k, .string bd, .int .i64 at_, .int .u8 a, .int .u8 b, .int .u8 c, .int .u8 d, .int .i64 other] w fun e w' => e = .returned (.bool true) ∧ Below w.heap.size w w' := by
  obtain ⟨x, rfl⟩ := byte_of k hk
  obtain ⟨a, rfl⟩ := byte_of a ha
  obtain ⟨b, rfl⟩ := byte_of b hb
  obtain ⟨c, rfl⟩ := byte_of c hc
  obtain ⟨d, rfl⟩ := byte_of d hd
  by_cases h1 : 2048 < bd.size
  · exact harm_out id x bd at_ a b c d other w T hm (.inl h1)
  by_cases h3 : sealE id bd.size = 0
  · exact harm_in id x bd at_ a b c d other w T hm h1 h3
  · exact harm_out id x bd at_ a b c d other w T hm (.inr h3)

end Go.Proofs.YtgcaffgdceljaaaDoor

/-
  The walk of the law CrcHarm: where at most four bytes in a row are others, the check is another one.
-/
import Derived.Test.YtmaolddobiiikaaDoorSum
import Derived.Deep.DeepCutAuto
import Derived.Laws.IdiomStrings
namespace Go.Proofs.YtmaolddobiiikaaDoor
open Go.RowKit
namespace crcHarm

/-- Block b holds the bytes l, and may be written. -/
structure Bytes (b : Nat) (l : List UInt8) (W : World) : Prop where
  lt : b < W.heap.size
  cell : ∀ j (hj : j < l.length), W.cell? ⟨b, j, none⟩ = some (.int .u8 (l[j].toNat : Int))
  free : ∀ j, j < l.length → W.frozen? ⟨b, j, none⟩ = false

theorem made (s : ByteArray) (w : World) : ∃ W cap, Sem.run Tryd.prog (convert 9 29 (.string s)) w = .ok (.slice (some ⟨w.heap.size, 0, none⟩) s.size cap) W ∧ Below w.heap.size w W ∧ Bytes w.heap.size s.data.toList W := by
  refine ⟨_, _, run_bytes_of_string w 9 29 5 s Tryd.underlying9 Tryd.underlying29 Tryd.underlying5, (Below.refl _ _).drew.alloc (Nat.le_refl _) _, ?_⟩
  refine ⟨by simp, fun j hj => ?_, fun j hj => ?_⟩
  · have h := World.cell?_alloc_mark w.drew (bytesRow s (grownCap w s.size 0 5)) 5 ((bytesRow s (grownCap w s.size 0 5)).size, (bytesRow s (grownCap w s.size 0 5)).size + 1) j
    rw [bytesRow_at s _ j (by simpa using hj)] at h
    simpa using h
  · have h := World.frozen?_alloc_mark w.drew (bytesRow s (grownCap w s.size 0 5)) 5 (bytesRow s (grownCap w s.size 0 5)).size ((bytesRow s (grownCap w s.size 0 5)).size + 1) j
    have hj' : ¬ (bytesRow s (grownCap w s.size 0 5)).size ≤ j := by
      have : j < s.data.size := by simpa using hj
      unfold bytesRow
      rw [Array.size_append, Array.size_map]
      omega
    rw [show (w.drew.heap.size) = w.heap.size from rfl] at h
    rw [h]
    simp [hj']

/-- A byte put at place k. -/
theorem Bytes.put {b k : Nat} {p q : List UInt8} {x : UInt8} {W : World} (h : Bytes b (p ++ x :: q) W) (hk : p.length = k) (y : UInt8) (n : Nat) (hn : y.toNat = n) : Bytes b (p ++ y :: q) (W.setCell ⟨b, k, none⟩ (.int .u8 (n : Int))) := by
  subst hk hn
  have hlen : (p ++ y :: q).length = (p ++ x :: q).length := by simp
  refine ⟨by simpa [World.setCell] using h.lt, fun j hj => ?_, fun j hj => ?_⟩
  · by_cases hj' : j = p.length
    · subst hj'
      rw [World.cell?_setCell_same _ _ _ (h.cell p.length (by simp))]
      simp
    · rw [World.cell?_setCell_other _ _ _ _ (fun e => hj' (by injection e with _ e2; exact e2.symm)), h.cell j (by rw [← hlen]; exact hj)]
      congr 4
      simp only [List.getElem_append, List.getElem_cons]
      split
      · rfl
      · have : ¬ j - p.length = 0 := by omega
        simp [this]
  · rw [World.frozen?_setCell]
    exact h.free j (by rw [← hlen]; exact hj)

theorem Bytes.at {b k : Nat} {p q : List UInt8} {x : UInt8} {W : World} (h : Bytes b (p ++ x :: q) W) (hk : p.length = k) : W.cell? ⟨b, k, none⟩ = some (.int .u8 (x.toNat : Int)) ∧ W.frozen? ⟨b, k, none⟩ = false := by
  subst hk
  refine ⟨?_, h.free _ (by simp)⟩
  rw [h.cell p.length (by simp)]
  simp

theorem Bytes.back {b : Nat} {l : List UInt8} {W : World} (h : Bytes b l W) (n cap : Nat) (hn : n = l.length) : Sem.run Tryd.prog (convert 29 9 (.slice (some ⟨b, 0, none⟩) n cap)) W = .ok (.string ⟨l.toArray⟩) W := by
  subst hn
  refine run_convert_bytes_back _ 29 9 5 _ cap l Tryd.underlying29 Tryd.underlying5 Tryd.underlying9 (fun j hj => ?_)
  have e : (⟨b, 0, none⟩ : Addr).add j = ⟨b, j, none⟩ := by simp [Addr.add]; intro h; omega
  rw [e]
  exact h.cell j hj

/-- A list, about four of its places. -/
theorem four_of (l : List UInt8) (k : Nat) (h : k + 4 ≤ l.length) : ∃ p q x0 x1 x2 x3, p.length = k ∧ l = p ++ x0 :: x1 :: x2 :: x3 :: q := by
  refine ⟨l.take k, l.drop (k + 4), l[k], l[k + 1], l[k + 2], l[k + 3], by simp; omega, ?_⟩
  conv => lhs; rw [← List.take_append_drop k l, List.drop_eq_getElem_cons (by omega), List.drop_eq_getElem_cons (by omega), List.drop_eq_getElem_cons (by omega), List.drop_eq_getElem_cons (by omega)]

theorem out (s : ByteArray) (at_ : Int) (a b c d : UInt8) (w : World) (h : Tab w) (hs : s.size ≤ maxLen) (ho : 2048 < (s.size : Int) ∨ (s.size : Int) < 4) :
    Calls Tryd.prog 5 #[.string s, .int .i64 at_, .int .u8 (a.toNat : Int), .int .u8 (b.toNat : Int), .int .u8 (c.toNat : Int), .int .u8 (d.toNat : Int)] w fun e w' => e = .returned (.bool true) ∧ Below w.heap.size w w' := by
  unfold maxLen at hs
  have T : Hid (Tab w) := h
  clear h
  rcases ho with ho | ho
  · go_enter Tryd.func5, Tryd.ntmps5
    go_wp2_with fail
    refine (works_any w T.out).mono ?_
    rintro e w1 ⟨rfl, hb1⟩
    go_wp2
    go_ret
    exact ⟨rfl, hb1⟩
  · have hb : ¬ 2048 < (s.size : Int) := by omega
    go_enter Tryd.func5, Tryd.ntmps5
    go_wp2_with fail
    refine (works_any w T.out).mono ?_
    rintro e w1 ⟨rfl, hb1⟩
    go_wp2
    go_ret
    exact ⟨rfl, hb1⟩

set_option maxRecDepth 100000 in
set_option maxHeartbeats 4000000 in
theorem walk_in (s : ByteArray) (at_ : Int) (a b c d : UInt8) (w : World) (h : Tab w) (hl : ¬ 2048 < (s.size : Int)) (h4 : ¬ (s.size : Int) < 4) :
    Calls Tryd.prog 5 #[.string s, .int .i64 at_, .int .u8 (a.toNat : Int), .int .u8 (b.toNat : Int), .int .u8 (c.toNat : Int), .int .u8 (d.toNat : Int)] w fun e w' => e = .returned (.bool true) ∧ Below w.heap.size w w' := by
  have T : Hid (Tab w) := h
  clear h
  obtain ⟨fa, ea⟩ : ∃ f, ((a.toNat : Int) == 0) = f := ⟨_, rfl⟩
  obtain ⟨fb, eb⟩ : ∃ f, ((b.toNat : Int) == 0) = f := ⟨_, rfl⟩
  obtain ⟨fc, ec⟩ : ∃ f, ((c.toNat : Int) == 0) = f := ⟨_, rfl⟩
  obtain ⟨fd, ed⟩ : ∃ f, ((d.toNat : Int) == 0) = f := ⟨_, rfl⟩
  go_enter Tryd.func5, Tryd.ntmps5
  go_upto_region 4 with (go_at_call 8; refine (works_any w T.out).mono ?_; rintro e w1 ⟨rfl, hb1⟩)
  go_cut [42] (fun t wx => t = .bool (fa && fb && fc && fd) ∧ wx = w1)
  case first =>
    go_wp2_with fail
    all_goals go_meet
    all_goals (refine ⟨congrArg Value.bool ?_, rfl⟩; rw [decide_eq_false (by omega), decide_eq_false (by omega)]; simp_all)
  case rest =>
  obtain ⟨rfl, rfl⟩ := hcut
  cases hz : (fa && fb && fc && fd)
  · go_upto_region 6 with fail
    go_cut [14] (fun t wx => (∃ k : Nat, t = .int .i64 k ∧ k + 4 ≤ s.size) ∧ wx = wc)
    case first =>
      go_wp2_with fail
      all_goals go_meet
      · exact ⟨⟨s.size - 4, congrArg _ (by omega), by omega⟩, rfl⟩
      · exact ⟨⟨0, rfl, by omega⟩, rfl⟩
      · have h2 : 0 ≤ at_ := by assumption
        have h1 : (if at_ < 0 then 0 else at_) ≤ (s.size : Int) - 4 := by assumption
        rw [if_neg (by omega)] at h1
        exact ⟨⟨at_.toNat, congrArg _ (by omega), by omega⟩, rfl⟩
    case rest =>
    obtain ⟨⟨k, rfl, hk⟩, rfl⟩ := hcut
    have TC : Hid (Tab wc) := T.out.below hb1
    obtain ⟨p, q, x0, x1, x2, x3, hp, es⟩ := four_of s.data.toList k (by simpa using hk)
    obtain ⟨W, cap, hcv, B1, BY⟩ := made s wc
    rw [es] at BY
    have NE : ((sumN (p ++ (x0 ^^^ a) :: (x1 ^^^ b) :: (x2 ^^^ c) :: (x3 ^^^ d) :: q) : Int) != (sumN s.data.toList : Int)) = true := by
      rw [es]
      have := harm p q x0 x1 x2 x3 a b c d (by rintro ⟨rfl, rfl, rfl, rfl⟩; subst ea eb ec ed; simp at hz)
      simp only [bne_iff_ne, ne_eq]
      omega
    obtain ⟨v0, hv0⟩ : ∃ v, (x0 ^^^ a).toNat = v := ⟨_, rfl⟩
    obtain ⟨v1, hv1⟩ : ∃ v, (x1 ^^^ b).toNat = v := ⟨_, rfl⟩
    obtain ⟨v2, hv2⟩ : ∃ v, (x2 ^^^ c).toNat = v := ⟨_, rfl⟩
    obtain ⟨v3, hv3⟩ : ∃ v, (x3 ^^^ d).toNat = v := ⟨_, rfl⟩
    have e0 : bits .xor .u8 (x0.toNat : Int) (a.toNat : Int) = (v0 : Int) := by rw [u8_xor_nat _ _ x0.toNat_lt a.toNat_lt, ← hv0, UInt8.toNat_xor]
    have e1 : bits .xor .u8 (x1.toNat : Int) (b.toNat : Int) = (v1 : Int) := by rw [u8_xor_nat _ _ x1.toNat_lt b.toNat_lt, ← hv1, UInt8.toNat_xor]
    have e2 : bits .xor .u8 (x2.toNat : Int) (c.toNat : Int) = (v2 : Int) := by rw [u8_xor_nat _ _ x2.toNat_lt c.toNat_lt, ← hv2, UInt8.toNat_xor]
    have e3 : bits .xor .u8 (x3.toNat : Int) (d.toNat : Int) = (v3 : Int) := by rw [u8_xor_nat _ _ x3.toNat_lt d.toNat_lt, ← hv3, UInt8.toNat_xor]
    obtain ⟨c0, f0⟩ := BY.at hp
    obtain ⟨c1, f1⟩ := Bytes.at (p := p ++ [x0]) (x := x1) (k := k + 1) (by simpa only [List.append_assoc, List.cons_append, List.nil_append] using BY) (by simp [hp])
    obtain ⟨c2, f2⟩ := Bytes.at (p := p ++ [x0, x1]) (x := x2) (k := k + 2) (by simpa only [List.append_assoc, List.cons_append, List.nil_append] using BY) (by simp [hp])
    obtain ⟨c3, f3⟩ := Bytes.at (p := p ++ [x0, x1, x2]) (x := x3) (k := k + 3) (by simpa only [List.append_assoc, List.cons_append, List.nil_append] using BY) (by simp [hp])
    have BY1 := BY.put hp (x0 ^^^ a) v0 hv0
    have BY2 := Bytes.put (p := p ++ [x0 ^^^ a]) (q := x2 :: x3 :: q) (x := x1) (k := k + 1) (by simpa only [List.append_assoc, List.cons_append, List.nil_append] using BY1) (by simp [hp]) (x1 ^^^ b) v1 hv1
    have BY3 := Bytes.put (p := p ++ [x0 ^^^ a, x1 ^^^ b]) (q := x3 :: q) (x := x2) (k := k + 2) (by simpa only [List.append_assoc, List.cons_append, List.nil_append] using BY2) (by simp [hp]) (x2 ^^^ c) v2 hv2
    have BY4 := Bytes.put (p := p ++ [x0 ^^^ a, x1 ^^^ b, x2 ^^^ c]) (q := q) (x := x3) (k := k + 3) (by simpa only [List.append_assoc, List.cons_append, List.nil_append] using BY3) (by simp [hp]) (x3 ^^^ d) v3 hv3
    simp only [List.append_assoc, List.cons_append, List.nil_append] at BY4
    have hLen : (p ++ (x0 ^^^ a) :: (x1 ^^^ b) :: (x2 ^^^ c) :: (x3 ^^^ d) :: q).length = s.size := by have := congrArg List.length es; simp at this ⊢; omega
    have hback := BY4.back s.size cap hLen.symm
    have hB4 : Below wc.heap.size wc _ := ((((B1.setCell (Nat.le_refl _) _).setCell (Nat.le_refl _) _).setCell (Nat.le_refl _) _).setCell (Nat.le_refl _) _ : Below wc.heap.size wc ((((W.setCell ⟨wc.heap.size, k, none⟩ (.int .u8 (v0 : Int))).setCell ⟨wc.heap.size, k + 1, none⟩ (.int .u8 (v1 : Int))).setCell ⟨wc.heap.size, k + 2, none⟩ (.int .u8 (v2 : Int))).setCell ⟨wc.heap.size, k + 3, none⟩ (.int .u8 (v3 : Int))))
    have F4 : Hid _ := hB4
    have S1 : Hid _ := sum1 ⟨(p ++ (x0 ^^^ a) :: (x1 ^^^ b) :: (x2 ^^^ c) :: (x3 ^^^ d) :: q).toArray⟩ _ (TC.out.below hB4) (by show (p ++ (x0 ^^^ a) :: (x1 ^^^ b) :: (x2 ^^^ c) :: (x3 ^^^ d) :: q).toArray.size ≤ maxLen; rw [List.size_toArray, hLen]; unfold maxLen; omega)
    rw [show (⟨(p ++ (x0 ^^^ a) :: (x1 ^^^ b) :: (x2 ^^^ c) :: (x3 ^^^ d) :: q).toArray⟩ : ByteArray).data.toList = p ++ (x0 ^^^ a) :: (x1 ^^^ b) :: (x2 ^^^ c) :: (x3 ^^^ d) :: q by simp] at S1
    rw [show ((((W.setCell ⟨wc.heap.size, k, none⟩ (.int .u8 (v0 : Int))).setCell ⟨wc.heap.size, k + 1, none⟩ (.int .u8 (v1 : Int))).setCell ⟨wc.heap.size, k + 2, none⟩ (.int .u8 (v2 : Int))).setCell ⟨wc.heap.size, k + 3, none⟩ (.int .u8 (v3 : Int))).heap.size = W.heap.size by simp] at S1
    have hs : Hid (s.size ≤ maxLen) := by unfold maxLen; show s.size ≤ _; omega
    have hk0 : (k : Int) < s.size := by omega
    have hk1 : (k : Int) + 1 < s.size := by omega
    have hk2 : (k : Int) + 2 < s.size := by omega
    have hk3 : (k : Int) + 3 < s.size := by omega
    clear BY BY1 BY2 BY3 BY4 hv0 hv1 hv2 hv3 B1 hB4 ea eb ec ed hz es hLen
    generalize sumN (p ++ (x0 ^^^ a) :: (x1 ^^^ b) :: (x2 ^^^ c) :: (x3 ^^^ d) :: q) = y at *
    generalize (⟨(p ++ (x0 ^^^ a) :: (x1 ^^^ b) :: (x2 ^^^ c) :: (x3 ^^^ d) :: q).toArray⟩ : ByteArray) = t at *
    go_wp2_with fail
    refine Calls.mono S1.out ?_
    rintro e w5 ⟨rfl, hw5⟩
    have B5 : Below wc.heap.size wc w5 := by subst hw5; exact F4.out.alloc F4.out.size _
    clear hw5 hcv hback S1
    have S2 : Hid _ := sum1 s w5 (TC.out.below B5) hs.out
    go_wp2_with fail
    refine Calls.mono S2.out ?_
    rintro e w6 ⟨rfl, hw6⟩
    have B6 : Below wc.heap.size wc w6 := by subst hw6; exact B5.alloc B5.size _
    clear hw6 S2
    go_wp2
    go_ret
    exact ⟨rfl, hb1.trans (B6.mono hb1.size)⟩
  · go_wp2
    go_ret
    exact ⟨rfl, hb1⟩

theorem walk (s : ByteArray) (at_ a b c d : Int) (w : World) (h : Tab w) (hs : s.size ≤ maxLen) (ha : 0 ≤ a ∧ a ≤ 255) (hb : 0 ≤ b ∧ b ≤ 255) (hc : 0 ≤ c ∧ c ≤ 255) (hd : 0 ≤ d ∧ d ≤ 255) :
    Calls Tryd.prog 5 #[.string s, .int .i64 at_, .int .u8 a, .int .u8 b, .int .u8 c, .int .u8 d] w fun e w' => e = .returned (.bool true) ∧ Below w.heap.size w w' := by
  have byte (n : Int) (hn : 0 ≤ n ∧ n ≤ 255) : ∃ x : UInt8, n = (x.toNat : Int) := ⟨UInt8.ofNat n.toNat, by simp; omega⟩
  obtain ⟨a, rfl⟩ := byte a ha
  obtain ⟨b, rfl⟩ := byte b hb
  obtain ⟨c, rfl⟩ := byte c hc
  obtain ⟨d, rfl⟩ := byte d hd
  by_cases h1 : 2048 < (s.size : Int)
  · exact out s at_ a b c d w h hs (.inl h1)
  by_cases h2 : (s.size : Int) < 4
  · exact out s at_ a b c d w h hs (.inr h2)
  exact walk_in s at_ a b c d w h h1 h2
end crcHarm
end Go.Proofs.YtmaolddobiiikaaDoor

/-
  The document's examples, as the statements of layer 7 hold them.
-/
import Derived.Test.YtalljfckjkbieaaDoorRsDec
namespace Go.Proofs.YtalljfckjkbieaaDoor
open Go.RowKit

def exR : Rt := ⟨3, 9, 0, 0, 0⟩
theorem exR_ok : exR.ok = true := by decide
def exS : ByteArray := ⟨(slotL exR).toArray⟩
theorem exS_size : exS.size = 256 := by rw [exS, ba_size, slotL_length]
theorem exS_head : exS.extract 0 12 = ⟨#[0, 0, 0, 3, 0, 0, 0, 9, 0, 0, 0, 0]⟩ := by decide +kernel
theorem exS_tail : exS.extract 252 256 = ⟨#[0, 0, 0, 3]⟩ := by decide +kernel
theorem dec_empty : decB [] = false := dec_len (by decide)

theorem len_of (s : ByteArray) : s.data.toList.length = s.size := by simp
theorem pick_list (a b : List UInt8) (ha : a.length ≤ maxLen) (hb : b.length ≤ maxLen) (w : World) (T : Tab w) : Calls Tryd.prog 14 #[.string ⟨a.toArray⟩, .string ⟨b.toArray⟩] w fun r w' => r = .returned (.tuple #[rtV (pkR a b), .int .i64 (pkE a b)]) ∧ Below w.heap.size w w' :=
  pick_any ⟨a.toArray⟩ ⟨b.toArray⟩ (by rw [ba_size]; exact ha) (by rw [ba_size]; exact hb) w T
theorem pick_to (a b : List UInt8) (ha : a.length ≤ maxLen) (hb : b.length ≤ maxLen) (x : Rt) (e : Int) (hx : pkR a b = x) (he : pkE a b = e) (w : World) (T : Tab w) : Calls Tryd.prog 14 #[.string ⟨a.toArray⟩, .string ⟨b.toArray⟩] w fun r w' => r = .returned (.tuple #[rtV x, .int .i64 e]) ∧ Below w.heap.size w w' := by
  have := pick_list a b ha hb w T
  rw [hx, he] at this
  exact this
theorem dec_list (a : List UInt8) (ha : a.length ≤ maxLen) (w : World) (T : Tab w) : Calls Tryd.prog 12 #[.string ⟨a.toArray⟩] w fun r w' => r = .returned (.tuple #[rtV (decR a), .bool (decB a)]) ∧ Below w.heap.size w w' :=
  dec_any ⟨a.toArray⟩ (by rw [ba_size]; exact ha) w T
theorem dec_to (a : List UInt8) (ha : a.length ≤ maxLen) (x : Rt) (b : Bool) (hx : decR a = x) (hb : decB a = b) (w : World) (T : Tab w) : Calls Tryd.prog 12 #[.string ⟨a.toArray⟩] w fun r w' => r = .returned (.tuple #[rtV x, .bool b]) ∧ Below w.heap.size w w' := by
  have := dec_list a ha w T
  rw [hx, hb] at this
  exact this
theorem slot_small (r : Rt) : (slotL r).length ≤ maxLen := by rw [slotL_length]; decide
theorem nil_small : ([] : List UInt8).length ≤ maxLen := by decide
theorem ex_pick (u : World) (hu : Tab u) : Calls Tryd.prog 14 #[.string ⟨#[]⟩, .string exS] u fun e w' => e = .returned (.tuple #[rtV exR, .int .i64 0]) ∧ Below u.heap.size u w' := by
  unfold exS
  exact pick_to [] (slotL exR) nil_small (slot_small _) exR 0 ((pkR_second dec_empty (decB_slot exR_ok)).trans (decR_slot exR_ok)) (pkE_right (decB_slot exR_ok)) u hu
theorem ex_cut (X : ByteArray) (hs : X.size = 255) (u : World) (hu : Tab u) : Calls Tryd.prog 14 #[.string ⟨#[]⟩, .string X] u fun e w' => e = .returned (.tuple #[rtV rt0, .int .i64 70]) ∧ Below u.heap.size u w' := by
  have hn : decB X.data.toList = false := dec_len (by rw [len_of, hs]; decide)
  have := pick_any ⟨#[]⟩ X (by decide) (by rw [hs]; decide) u hu
  rw [show (⟨#[]⟩ : ByteArray).data.toList = [] from rfl, pkR_none dec_empty hn, pkE_none dec_empty hn] at this
  exact this
theorem ex_enc (u : World) (hu : Tab u) : Calls Tryd.prog 10 #[rtV exR] u fun e w' => e = .returned (.tuple #[.string exS, .int .i64 0]) ∧ Below u.heap.size u w' := by
  unfold exS
  exact enc_yes exR_ok u hu
theorem exS_cut : (exS.extract 1 256).size = 255 := by rw [ByteArray.size_extract, exS_size]; rfl

set_option maxRecDepth 100000 in
set_option maxHeartbeats 2000000 in
theorem works_any (w : World) (T : Tab w) : Calls Tryd.prog 9 #[] w fun e w' => e = .returned (.bool true) ∧ Below w.heap.size w w' := by
  have TAB : Hid (Tab w) := T
  have hz := exS_size
  have hh := exS_head
  have ht := exS_tail
  have C1 : Hid (∀ u, Tab u → Calls Tryd.prog 10 #[rtV exR] u fun e w' => e = .returned (.tuple #[.string exS, .int .i64 0]) ∧ Below u.heap.size u w') := ex_enc
  have C2 : Hid (∀ u, Tab u → Calls Tryd.prog 14 #[.string ⟨#[]⟩, .string exS] u fun e w' => e = .returned (.tuple #[rtV exR, .int .i64 0]) ∧ Below u.heap.size u w') := ex_pick
  have C3 : Hid (∀ u, Tab u → Calls Tryd.prog 14 #[.string ⟨#[]⟩, .string (exS.extract 1 256)] u fun e w' => e = .returned (.tuple #[rtV rt0, .int .i64 70]) ∧ Below u.heap.size u w') := ex_cut _ exS_cut
  have C4 : Hid (∀ u, Tab u → Calls Tryd.prog 10 #[rtV rt0] u fun e w' => e = .returned (.tuple #[.string ⟨#[]⟩, .int .i64 1]) ∧ Below u.heap.size u w') := fun u hu => enc_not rt0_ok u hu
  clear T
  generalize exS = G at *
  unfold rtV exR rt0 at *
  dsimp only at *
  go_enter Tryd.func9, Tryd.ntmps9
  go_wp2_with fail
  refine Calls.mono (C1.out _ TAB.out) ?_
  rintro e v1 ⟨rfl, b2⟩
  have B3 : Hid (Below w.heap.size w v1) := b2
  clear b2
  go_wp2_with fail
  refine Calls.mono (C2.out _ (TAB.out.below B3.out)) ?_
  rintro e v4 ⟨rfl, b5⟩
  have B6 : Hid (Below w.heap.size w v4) := B3.out.trans (b5.mono B3.out.size)
  clear b5 B3
  go_wp2_with fail
  have N10 : Hid (Cl (v4.alloc (.cells #[.int .i64 3, .int .i64 9, .int .i64 0, .int .i64 0, .int .i64 0] 23)) v4.heap.size #[.int .i64 3, .int .i64 9, .int .i64 0, .int .i64 0, .int .i64 0] 23) := Cl.new v4 #[.int .i64 3, .int .i64 9, .int .i64 0, .int .i64 0, .int .i64 0] 23
  have B9 : Hid (Below w.heap.size w (v4.alloc (.cells #[.int .i64 3, .int .i64 9, .int .i64 0, .int .i64 0, .int .i64 0] 23))) := B6.out.alloc B6.out.size _
  have L11 : Hid (w.heap.size ≤ v4.heap.size) := B6.out.size
  clear B6
  generalize v4.alloc (.cells #[.int .i64 3, .int .i64 9, .int .i64 0, .int .i64 0, .int .i64 0] 23) = v7 at *
  generalize v4.heap.size = q8 at *
  refine Calls.mono (C3.out _ (TAB.out.below B9.out)) ?_
  rintro e v12 ⟨rfl, b13⟩
  have N15 : Hid (Cl v12 q8 #[.int .i64 3, .int .i64 9, .int .i64 0, .int .i64 0, .int .i64 0] 23) := Cl.on N10.out b13
  have B14 : Hid (Below w.heap.size w v12) := B9.out.trans (b13.mono B9.out.size)
  clear b13 N10 B9
  go_wp2_with fail
  have N19 : Hid (Cl (v12.alloc (.cells #[.int .i64 0, .int .i64 0, .int .i64 0, .int .i64 0, .int .i64 0] 23)) v12.heap.size #[.int .i64 0, .int .i64 0, .int .i64 0, .int .i64 0, .int .i64 0] 23) := Cl.new v12 #[.int .i64 0, .int .i64 0, .int .i64 0, .int .i64 0, .int .i64 0] 23
  have B18 : Hid (Below w.heap.size w (v12.alloc (.cells #[.int .i64 0, .int .i64 0, .int .i64 0, .int .i64 0, .int .i64 0] 23))) := B14.out.alloc B14.out.size _
  have L20 : Hid (w.heap.size ≤ v12.heap.size) := B14.out.size
  have N21 : Hid (Cl (v12.alloc (.cells #[.int .i64 0, .int .i64 0, .int .i64 0, .int .i64 0, .int .i64 0] 23)) q8 #[.int .i64 3, .int .i64 9, .int .i64 0, .int .i64 0, .int .i64 0] 23) := Cl.alloc N15.out _
  clear N15 B14
  generalize v12.alloc (.cells #[.int .i64 0, .int .i64 0, .int .i64 0, .int .i64 0, .int .i64 0] 23) = v16 at *
  generalize v12.heap.size = q17 at *
  refine Calls.mono (C4.out _ (TAB.out.below B18.out)) ?_
  rintro e v22 ⟨rfl, b23⟩
  have N25 : Hid (Cl v22 q8 #[.int .i64 3, .int .i64 9, .int .i64 0, .int .i64 0, .int .i64 0] 23) := Cl.on N21.out b23
  have N26 : Hid (Cl v22 q17 #[.int .i64 0, .int .i64 0, .int .i64 0, .int .i64 0, .int .i64 0] 23) := Cl.on N19.out b23
  have B24 : Hid (Below w.heap.size w v22) := B18.out.trans (b23.mono B18.out.size)
  clear b23 N21 N19 B18
  obtain ⟨c27_0, c27_1, c27_2, c27_3, c27_4⟩ := N25.out.five
  go_wp2
  go_ret
  exact ⟨rfl, B24.out⟩

end Go.Proofs.YtalljfckjkbieaaDoor

/-
  The walks of page.noughts and page.Seal.
-/
import Derived.Test.YtkbakmgjplhjiaaDoorPg
import Derived.Test.YtkbakmgjplhjiaaDoorCrSum
namespace Go.Proofs.YtkbakmgjplhjiaaDoor
open Go.RowKit

theorem repeat_zero (n : Nat) : Lib.repeatL [0] n = List.replicate n (0 : UInt8) := by
  have := Lib.repeatL_replicate 0 1 n
  simpa using this

set_option maxHeartbeats 400000 in
theorem noughts_any (n : Nat) (w : World) (hn : n ≤ 1000) :
    Calls Tryd.prog 59 #[.int .i64 n] w fun e w' => e = .returned (.string ⟨(List.replicate n (0 : UInt8)).toArray⟩) ∧ Below w.heap.size w w' := by
  have C : Hid (Calls Tryd.prog 30 #[.string ⟨#[0]⟩, .int .i64 n] w fun e w' => e = .returned (.string ⟨(Lib.repeatL [0] n).toArray⟩) ∧ Below w.heap.size w w') := Tryd.strings_Repeat ⟨#[0]⟩ n w (by omega) (by show 1 * n ≤ _; omega)
  rw [repeat_zero] at C
  go_enter Tryd.func59, Tryd.ntmps59
  go_wp2_with (go_at_call 30; refine Calls.mono C.out ?_; rintro e w' ⟨rfl, hb⟩)
  go_ret
  exact ⟨rfl, hb⟩

theorem join_new (xs : List ByteArray) (vs : Array Value) (w : World) (n : Nat) (hn : xs.length = n) (hv : vs = (xs.map Value.string).toArray) (hs : n ≤ 8) (hl : (cat xs).length ≤ 140737488355328) :
    Calls Tryd.prog 58 #[.slice (some ⟨w.heap.size, 0, none⟩) n n] (w.alloc (.cells vs 9)) fun r w' => r = .returned (.string ⟨(cat xs).toArray⟩) ∧ Below w.heap.size w w' := by
  subst hn hv
  have h := join_any w.heap.size 0 xs.length xs.length xs (w.alloc (.cells (xs.map Value.string).toArray 9)) (fun j z hj => ?_) (by simp) rfl (by omega) (Nat.le_refl _) hl
  · exact h.mono fun r w' ⟨a, b⟩ => ⟨a, ((Below.refl _ _).alloc (Nat.le_refl _) _).trans (b.mono (by simp))⟩
  · rw [World.cell?_alloc_at _ 9 _ (0 + j) rfl, Nat.zero_add]
    simp [hj]

theorem one_byte (k : UInt8) : beBytes 1 k.toNat = [k] := by simp [beBytes]

theorem cat_rest (n : Nat) (k : UInt8) (b : ByteArray) :
    cat [⟨(beBytes 4 n).toArray⟩, ⟨(beBytes 1 k.toNat).toArray⟩, ⟨(List.replicate 1 (0 : UInt8)).toArray⟩, ⟨(beBytes 2 b.size).toArray⟩, ⟨(List.replicate 4 (0 : UInt8)).toArray⟩, b, ⟨(List.replicate (240 - b.size) (0 : UInt8)).toArray⟩] = restL n k b.data.toList := by
  rw [one_byte]
  simp only [cat, List.map_cons, List.map_nil, List.flatten_cons, List.flatten_nil, List.append_nil, restL]
  rw [show b.data.toList.length = b.size by simp]
  rfl

theorem cat_page (n : Nat) (k : UInt8) (b : List UInt8) : cat [⟨(beBytes 4 (sumN (restL n k b))).toArray⟩, ⟨(restL n k b).toArray⟩] = pageL n k b := by
  simp only [cat, List.map_cons, List.map_nil, List.flatten_cons, List.flatten_nil, List.append_nil, pageL]

set_option maxRecDepth 100000 in
set_option maxHeartbeats 2000000 in
theorem seal_ok (n : Nat) (k : UInt8) (b : ByteArray) (w : World) (T : Tab w) (hn : n < 4294967296) (hb : b.size ≤ 240) :
    Calls Tryd.prog 37 #[.int .i64 n, .int .u8 (k.toNat : Int), .string b] w fun e w' => e = .returned (.tuple #[.string ⟨(pageL n k b.data.toList).toArray⟩, .int .i64 0]) ∧ Below w.heap.size w w' := by
  have TAB : Hid (Tab w) := T
  have C1 : Hid _ := put4 n w hn
  have hk : k.toNat < 256 := UInt8.toNat_lt k
  have hl : (restL n k b.data.toList).length = 252 := restL_length _ _ _ (by simpa using hb)
  have ER : Hid (_ = restL n k b.data.toList) := cat_rest n k b
  have EP : Hid (_ = pageL n k b.data.toList) := cat_page n k b.data.toList
  have hS : sumN (restL n k b.data.toList) < 4294967296 := sumN_lt _
  have hP : (pageL n k b.data.toList).length = 256 := pageL_length _ _ _ (by simpa using hb)
  generalize restL n k b.data.toList = R at *
  generalize pageL n k b.data.toList = G at *
  clear T
  go_enter Tryd.func37, Tryd.ntmps37
  go_wp2_with fail
  refine Calls.mono C1.out ?_
  rintro e w1 ⟨rfl, b1⟩
  have B1 : Hid (Below w.heap.size w w1) := b1
  clear b1 C1
  have C2 : Hid _ := put1 k.toNat w1 hk
  go_wp2_with fail
  refine Calls.mono C2.out ?_
  rintro e w2 ⟨rfl, b2⟩
  have B2 : Hid (Below w.heap.size w w2) := B1.out.trans (b2.mono B1.out.size)
  clear b2 C2
  have C3 : Hid _ := put2 b.size w2 (by omega)
  go_wp2_with fail
  refine Calls.mono C3.out ?_
  rintro e w3 ⟨rfl, b3⟩
  have B3 : Hid (Below w.heap.size w w3) := B2.out.trans (b3.mono B2.out.size)
  clear b3 C3
  have C4 : Hid (Calls Tryd.prog 59 #[.int .i64 1] w3 fun e w' => e = .returned (.string ⟨(List.replicate 1 (0 : UInt8)).toArray⟩) ∧ Below w3.heap.size w3 w') := noughts_any 1 w3 (by omega)
  go_wp2_with fail
  refine Calls.mono C4.out ?_
  rintro e w4 ⟨rfl, b4⟩
  have B4 : Hid (Below w.heap.size w w4) := B3.out.trans (b4.mono B3.out.size)
  clear b4 C4
  have C5 : Hid (Calls Tryd.prog 59 #[.int .i64 4] w4 fun e w' => e = .returned (.string ⟨(List.replicate 4 (0 : UInt8)).toArray⟩) ∧ Below w4.heap.size w4 w') := noughts_any 4 w4 (by omega)
  go_wp2_with fail
  refine Calls.mono C5.out ?_
  rintro e w5 ⟨rfl, b5⟩
  have B5 : Hid (Below w.heap.size w w5) := B4.out.trans (b5.mono B4.out.size)
  clear b5 C5
  have C6 : Hid _ := noughts_any (240 - b.size) w5 (by omega)
  rw [show (((240 - b.size : Nat) : Int)) = 240 - (b.size : Int) by omega] at C6
  go_wp2_with fail
  refine Calls.mono C6.out ?_
  rintro e w6 ⟨rfl, b6⟩
  have B6 : Hid (Below w.heap.size w w6) := B5.out.trans (b6.mono B5.out.size)
  clear b6 C6
  have C7 : Hid _ := join_new [⟨(beBytes 4 n).toArray⟩, ⟨(beBytes 1 k.toNat).toArray⟩, ⟨(List.replicate 1 (0 : UInt8)).toArray⟩, ⟨(beBytes 2 b.size).toArray⟩, ⟨(List.replicate 4 (0 : UInt8)).toArray⟩, b, ⟨(List.replicate (240 - b.size) (0 : UInt8)).toArray⟩] _ w6 7 rfl rfl (by omega) (by rw [ER.out, hl]; omega)
  rw [ER.out] at C7
  go_wp2_with fail
  refine Calls.mono C7.out ?_
  rintro e w7 ⟨rfl, b7⟩
  have B7 : Hid (Below w.heap.size w w7) := B6.out.trans (b7.mono B6.out.size)
  clear b7 C7
  have C8 : Hid _ := sum1 ⟨R.toArray⟩ w7 (TAB.out.below B7.out) (by rw [ba_size]; unfold maxLen; omega)
  rw [show (⟨R.toArray⟩ : ByteArray).data.toList = R from rfl] at C8
  go_wp2_with fail
  refine Calls.mono C8.out ?_
  rintro e w8 ⟨rfl, hw8⟩
  have B8 : Hid (Below w.heap.size w w8) := by subst hw8; exact B7.out.alloc B7.out.size _
  clear hw8 C8
  have C9 : Hid _ := put4 (sumN R) w8 hS
  go_wp2_with fail
  refine Calls.mono C9.out ?_
  rintro e w9 ⟨rfl, b9⟩
  have B9 : Hid (Below w.heap.size w w9) := B8.out.trans (b9.mono B8.out.size)
  clear b9 C9
  have C10 : Hid _ := join_new [⟨(beBytes 4 (sumN R)).toArray⟩, ⟨R.toArray⟩] _ w9 2 rfl rfl (by omega) (by rw [EP.out, hP]; omega)
  rw [EP.out] at C10
  go_wp2_with fail
  refine Calls.mono C10.out ?_
  rintro e w10 ⟨rfl, b10⟩
  have B10 : Hid (Below w.heap.size w w10) := B9.out.trans (b10.mono B9.out.size)
  clear b10 C10
  go_wp2
  go_ret2
  exact ⟨rfl, B10.out⟩

set_option maxRecDepth 100000 in
set_option maxHeartbeats 1000000 in
theorem seal_long (id : Int) (k : UInt8) (b : ByteArray) (w : World) (hb : 240 < b.size) (hm : b.size ≤ maxLen) :
    Calls Tryd.prog 37 #[.int .i64 id, .int .u8 (k.toNat : Int), .string b] w fun e w' => e = .returned (.tuple #[.string ⟨#[]⟩, .int .i64 50]) ∧ w = w' := by
  unfold maxLen at hm
  go_enter Tryd.func37, Tryd.ntmps37
  go_wp2
  go_ret2
  exact ⟨rfl, rfl⟩

set_option maxRecDepth 100000 in
set_option maxHeartbeats 1000000 in
theorem seal_arg (id : Int) (k : UInt8) (b : ByteArray) (w : World) (hb : b.size ≤ 240) (hp : putB 4 id = false) :
    Calls Tryd.prog 37 #[.int .i64 id, .int .u8 (k.toNat : Int), .string b] w fun e w' => e = .returned (.tuple #[.string ⟨#[]⟩, .int .i64 1]) ∧ Below w.heap.size w w' := by
  have C : Hid _ := put_any 4 id w
  rw [show putS 4 id = [] by simp [putS, hp], show putE 4 id = 1 by simp [putE, hp]] at C
  clear hp
  go_enter Tryd.func37, Tryd.ntmps37
  go_wp2_with fail
  refine Calls.mono C.out ?_
  rintro e w1 ⟨rfl, b1⟩
  go_wp2
  go_ret2
  exact ⟨rfl, b1⟩

theorem seal_any (id : Int) (k : UInt8) (b : ByteArray) (w : World) (T : Tab w) (hm : b.size ≤ maxLen) :
    Calls Tryd.prog 37 #[.int .i64 id, .int .u8 (k.toNat : Int), .string b] w fun e w' => e = .returned (.tuple #[.string ⟨(sealS id k b.data.toList).toArray⟩, .int .i64 (sealE id b.size)]) ∧ Below w.heap.size w w' := by
  have hsz : b.data.toList.length = b.size := by simp
  by_cases hb : 240 < b.size
  · have e1 : sealE id b.size = 50 := by rw [sealE, if_pos hb]
    have e2 : sealS id k b.data.toList = [] := by rw [sealS, hsz, e1, if_neg (by decide)]
    rw [e1, e2]
    exact (seal_long id k b w hb hm).mono fun e w' ⟨h1, h2⟩ => ⟨h1, by subst h2; exact Below.refl _ _⟩
  · cases hp : putB 4 id
    · have e1 : sealE id b.size = 1 := by rw [sealE, if_neg hb, hp, if_neg (by decide)]
      have e2 : sealS id k b.data.toList = [] := by rw [sealS, hsz, e1, if_neg (by decide)]
      rw [e1, e2]
      exact seal_arg id k b w (by omega) hp
    · have e1 : sealE id b.size = 0 := by rw [sealE, if_neg hb, hp, if_pos rfl]
      have e2 : sealS id k b.data.toList = pageL id.toNat k b.data.toList := by rw [sealS, hsz, e1, if_pos rfl]
      obtain ⟨h0, h1⟩ := (putB4 id).1 hp
      rw [e1, e2]
      have := seal_ok id.toNat k b w T (by omega) (by omega)
      rw [show ((id.toNat : Nat) : Int) = id by omega] at this
      exact this

end Go.Proofs.YtkbakmgjplhjiaaDoor

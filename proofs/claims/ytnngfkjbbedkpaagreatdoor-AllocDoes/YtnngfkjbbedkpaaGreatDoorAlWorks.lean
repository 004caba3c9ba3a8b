/-
  The walk of rootstocklaw10's works: the document's example.
-/
import Derived.Test.YtnngfkjbbedkpaaGreatDoorAlTaken
namespace Go.Proofs.YtnngfkjbbedkpaaGreatDoor
open Go.Shelf Go.RowKit Go.Lib Go.Sort
set_option linter.unusedVariables false

def y0 : TX := TX.new [(3, 3)] 5 6
def y1 : (Int × Int) × TX := y0.alloc 6
def y2 : (Int × Int) × TX := y1.2.alloc 6
def y3 : (Int × Int) × TX := y2.2.alloc 6
def y4 : TX := y3.2.drop 3
def y5 : (Int × Int) × TX := y4.alloc 6
theorem y_1 : y1.1 = (3, 0) ∧ y2.1 = (5, 0) ∧ y3.1 = (0, 2) ∧ y5.1 = (3, 0) := by decide +kernel
theorem y_2 : (y3.2.fresh 3).isSome = true ∧ y5.2.free = [] ∧ y5.2.pages = 6 ∧ (y5.2.put 4 1 ByteArray.empty).1 = 1 ∧ ((y5.2.put 4 1 ByteArray.empty).2.put 3 1 ⟨#[120]⟩).1 = 0 := by decide +kernel
theorem y_3 : y0.cnt = 0 ∧ y1.2.cnt = 1 ∧ y2.2.cnt = 2 ∧ y3.2.cnt = 2 ∧ y4.cnt = 2 ∧ y5.2.cnt = 3 ∧ (y5.2.put 4 1 ByteArray.empty).2.cnt = 3 := by decide +kernel
theorem y_0 : y0.Ok 6 ∧ y1.2.Ok 6 ∧ y2.2.Ok 6 ∧ y3.2.Ok 6 ∧ y4.Ok 6 ∧ y5.2.Ok 6 := by
  have h0 : y0.Ok 6 := TX.new_ok _ _ (by omega)
  have h1 : y1.2.Ok 6 := TX.alloc_ok h0
  have h2 : y2.2.Ok 6 := TX.alloc_ok h1
  have h3 : y3.2.Ok 6 := TX.alloc_ok h2
  have h4 : y4.Ok 6 := TX.drop_ok h3 3
  exact ⟨h0, h1, h2, h3, h4, TX.alloc_ok h4⟩
theorem y_f : y3.2 = y2.2 ∧ y2.2.fresh = putF (putF (fun _ => none) 3 c0) 5 c0 ∧ y5.2.fresh = putF (delF y2.2.fresh 3) 3 c0 := ⟨rfl, rfl, rfl⟩
theorem y_k : KeysOf y5.2.fresh [3, 5] := by
  refine ⟨by decide, fun k => ?_⟩
  rw [y_f.2.2, y_f.2.1]
  simp only [putF_some, delF_some]
  simp
  omega
theorem room6 : (Dk.new 6).room = 6 := by decide +kernel

set_option maxRecDepth 100000 in
set_option maxHeartbeats 4000000 in
theorem works_any (w : World) : Calls Tryz.prog 5 #[] w fun e w' => e = .returned (.bool true) ∧ Below w.heap.size w w' := by
  have S0 : Hid (Sep w.heap.size w w []) := Sep.nil (Nat.le_refl _) (Below.refl _ _)
  have C1 : Hid _ := new_s 6 S0.out
  go_enter Tryz.func5, Tryz.ntmps5
  go_wp2_with fail
  refine Calls.mono C1.out ?_
  rintro e w1 ⟨b, rfl, s1⟩
  have C2 : Hid _ := new_f s1
  clear C1 s1 S0
  go_wp2_with fail
  refine Calls.mono C2.out ?_
  rintro e w2 ⟨f, rfl, s2⟩
  have C3 := tnew (s2.alloc (.cells #[.int .i64 3, .int .i64 3] 69)) (by rw [room6]; decide) (row_one (Cl.new _ _ _)) (by decide) 5
  rw [room6] at C3
  change Calls _ _ _ _ (fun e w' => ∃ t, e = .returned (ptr t) ∧ Sep w.heap.size w w' (Tx t f y0 :: File f b (Dk.new 6) :: [])) at C3
  have C4 : Hid _ := C3
  clear C2 s2 C3
  go_wp2_with fail
  refine Calls.mono C4.out ?_
  rintro e w3 ⟨t, rfl, s3⟩
  have C5 := talloc s3 (by rw [room6]; exact y_0.1) (by rw [room6]; decide) (by decide +kernel)
  rw [room6] at C5
  change Calls _ _ _ _ (fun e w' => e = .returned (.tuple #[.int .i64 y1.1.1, .int .i64 y1.1.2]) ∧ Sep w.heap.size w w' (Tx t f y1.2 :: File f b (Dk.new 6) :: [])) at C5
  rw [y_1.1] at C5
  simp only at C5
  have C6 : Hid _ := C5
  clear C4 s3 C5
  go_wp2_with fail
  refine Calls.mono C6.out ?_
  rintro e w4 ⟨rfl, s4⟩
  have C7 := talloc s4 (by rw [room6]; exact y_0.2.1) (by rw [room6]; decide) (by rw [y_3.2.1]; decide)
  rw [room6] at C7
  change Calls _ _ _ _ (fun e w' => e = .returned (.tuple #[.int .i64 y2.1.1, .int .i64 y2.1.2]) ∧ Sep w.heap.size w w' (Tx t f y2.2 :: File f b (Dk.new 6) :: [])) at C7
  rw [y_1.2.1] at C7
  simp only at C7
  have C8 : Hid _ := C7
  clear C6 s4 C7
  go_wp2_with fail
  refine Calls.mono C8.out ?_
  rintro e w5 ⟨rfl, s5⟩
  have C9 := talloc s5 (by rw [room6]; exact y_0.2.2.1) (by rw [room6]; decide) (by rw [y_3.2.2.1]; decide)
  rw [room6] at C9
  change Calls _ _ _ _ (fun e w' => e = .returned (.tuple #[.int .i64 y3.1.1, .int .i64 y3.1.2]) ∧ Sep w.heap.size w w' (Tx t f y3.2 :: File f b (Dk.new 6) :: [])) at C9
  rw [y_1.2.2.1] at C9
  simp only at C9
  have C10 : Hid _ := C9
  clear C8 s5 C9
  go_wp2_with fail
  refine Calls.mono C10.out ?_
  rintro e w6 ⟨rfl, s6⟩
  have C11 := tfresh s6 (id := 3) ⟨by decide, by decide⟩
  rw [y_2.1] at C11
  have C12 : Hid _ := C11
  have S6 : Hid _ := s6
  clear C10 s6 C11
  go_wp2_with fail
  refine Calls.mono C12.out ?_
  rintro e w7 ⟨rfl, b7⟩
  have s7 : Sep w.heap.size w w7 (Tx t f y3.2 :: File f b (Dk.new 6) :: []) := Sep.below S6.out b7
  have C13 := tdrop s7 (id := 3) ⟨by decide, by decide⟩ (Nat.le_trans y_0.2.2.2.1.len (Nat.le_trans y_0.2.2.2.1.pr (by decide)))
  change Calls _ _ _ _ (fun e w' => e = .returned (.tuple #[]) ∧ Sep w.heap.size w w' (Tx t f y4 :: File f b (Dk.new 6) :: [])) at C13
  have C14 : Hid _ := C13
  clear C12 s7 C13 S6 b7
  go_wp2_with fail
  refine Calls.mono C14.out ?_
  rintro e w8 ⟨rfl, s8⟩
  have C15 := talloc s8 (by rw [room6]; exact y_0.2.2.2.2.1) (by rw [room6]; decide) (by rw [y_3.2.2.2.2.1]; decide)
  rw [room6] at C15
  change Calls _ _ _ _ (fun e w' => e = .returned (.tuple #[.int .i64 y5.1.1, .int .i64 y5.1.2]) ∧ Sep w.heap.size w w' (Tx t f y5.2 :: File f b (Dk.new 6) :: [])) at C15
  rw [y_1.2.2.2] at C15
  simp only at C15
  have C16 : Hid _ := C15
  clear C14 s8 C15
  go_wp2_with fail
  refine Calls.mono C16.out ?_
  rintro e w9 ⟨rfl, s9⟩
  have C17 := tpages s9 (by rw [y_2.2.2.1]; decide)
  rw [y_2.2.2.1] at C17
  have C18 : Hid _ := C17
  have S9 : Hid (Sep w.heap.size w w9 (Tx t f y5.2 :: File f b (Dk.new 6) :: [])) := s9
  clear C16 s9 C17
  go_wp2_with fail
  refine Calls.mono C18.out ?_
  rintro e w10 ⟨rfl, rfl⟩
  have C19 := tfree S9.out (by rw [y_2.2.1]; exact Cn.nil) (by rw [y_2.2.1]; decide)
  rw [y_2.2.1] at C19
  have C20 : Hid _ := C19
  clear C18 C19
  go_wp2_with fail
  refine Calls.mono C20.out ?_
  rintro e w11 ⟨ao, n, c, rfl, ⟨ao', cap', e', _⟩, b11⟩
  cases e'
  have s11 : Sep w.heap.size w w11 (Tx t f y5.2 :: File f b (Dk.new 6) :: []) := Sep.below S9.out b11
  have C21 : Hid _ := ttaken s11 (by rw [y_3.2.2.2.2.2.1]; decide)
  have S11 : Hid (Sep w.heap.size w w11 (Tx t f y5.2 :: File f b (Dk.new 6) :: [])) := s11
  clear C20 s11 b11 S9
  simp only [List.length_nil]
  go_wp2_with fail
  refine Calls.mono C21.out ?_
  rintro e w12 ⟨v, L, rfl, hL, _, hrow, b12⟩
  obtain rfl := hL.unique y_k
  obtain ⟨ao2, c2, rfl⟩ : ∃ ao c, v = .slice ao 2 c := by
    rcases hrow.2 with ⟨_, h2⟩ | ⟨g, cap, cur, h1, _⟩
    · simp at h2
    · exact ⟨_, _, h1⟩
  have s12 : Sep w.heap.size w w12 (Tx t f y5.2 :: File f b (Dk.new 6) :: []) := Sep.below S11.out b12
  have C23 := tput s12 (id := 4) ⟨by decide, by decide⟩ 1 ByteArray.empty (by decide) (by rw [y_3.2.2.2.2.2.1]; decide)
  rw [y_2.2.2.2.1] at C23
  have C24 : Hid (Calls Tryz.prog 15 #[ptr t, .int .i64 4, .int .u8 1, .string ⟨#[]⟩] w12 fun e w' => e = .returned (.int .i64 1) ∧ Sep w.heap.size w w' (Tx t f (y5.2.put 4 1 ByteArray.empty).2 :: File f b (Dk.new 6) :: [])) := C23
  clear C21 S11 hL hrow b12 s12 C23
  go_wp2_with fail
  refine Calls.mono C24.out ?_
  rintro e w13 ⟨rfl, s13⟩
  have C25 := tput s13 (id := 3) ⟨by decide, by decide⟩ 1 ⟨#[120]⟩ (by decide) (by rw [y_3.2.2.2.2.2.2]; decide)
  rw [y_2.2.2.2.2] at C25
  have C26 : Hid (Calls Tryz.prog 15 #[ptr t, .int .i64 3, .int .u8 1, .string ⟨#[120]⟩] w13 fun e w' => e = .returned (.int .i64 0) ∧ Sep w.heap.size w w' (Tx t f ((y5.2.put 4 1 ByteArray.empty).2.put 3 1 ⟨#[120]⟩).2 :: File f b (Dk.new 6) :: [])) := C25
  clear C24 s13 C25
  go_wp2_with fail
  refine Calls.mono C26.out ?_
  rintro e w14 ⟨rfl, s14⟩
  have B14 : Hid (Below w.heap.size w w14) := s14.bel
  clear C26 s14
  go_wp2
  go_ret
  exact ⟨rfl, B14.out⟩

end Go.Proofs.YtnngfkjbbedkpaaGreatDoor

/-
  The walk of crc.Sum: the check of all parts, one behind the other.
-/
import Derived.Test.YtalljfckjkbieaaDoorCrStep
import Derived.Test.YtalljfckjkbieaaDoorCdJoin
import Derived.WalkLawsBesides
import Derived.LoopTactic
namespace Go.Proofs.YtalljfckjkbieaaDoor
open Go.RowKit

theorem cat_take (xs : List ByteArray) (k : Nat) (h : k < xs.length) : cat (xs.take (k + 1)) = cat (xs.take k) ++ (xs.getD k ByteArray.empty).data.toList := by
  have e : xs.take (k + 1) = xs.take k ++ [xs.getD k ByteArray.empty] := by
    rw [List.take_succ_eq_append_getElem h, List.getD_eq_getElem?_getD, List.getElem?_eq_getElem h]
    rfl
  rw [e]
  unfold cat
  rw [List.map_append, List.flatten_append]
  simp

/-- A slice of strings, as the walk is told of it: the strings are xs. -/
structure StrRow (w : World) (a : Option Addr) (len cap : Nat) (xs : List ByteArray) : Prop where
  len_eq : xs.length = len
  le_cap : len ≤ cap
  small : len ≤ maxLen
  sizes : ∀ k, k < len → (xs.getD k ByteArray.empty).size ≤ maxLen
  cells : ∀ k, k < len → ∃ b o, a = some ⟨b, o, none⟩ ∧ b < w.heap.size ∧ w.cell? ⟨b, o + k, none⟩ = some (.string (xs.getD k ByteArray.empty))

theorem StrRow.below {w w' : World} {a : Option Addr} {len cap : Nat} {xs : List ByteArray} (h : StrRow w a len cap xs) (hb : Below w.heap.size w w') : StrRow w' a len cap xs := by
  refine ⟨h.len_eq, h.le_cap, h.small, h.sizes, fun k hk => ?_⟩
  obtain ⟨b, o, ha, hlt, hc⟩ := h.cells k hk
  exact ⟨b, o, ha, Nat.lt_of_lt_of_le hlt hb.size, by rw [hb.cell hlt]; exact hc⟩

theorem foldN_take (c : Nat) (x : ByteArray) (i : Nat) (h : i < x.size) : foldN c (x.data.toList.take (i + 1)) = stepN (foldN c (x.data.toList.take i)) x[i].toNat := by
  have h' : i < x.data.toList.length := by simpa using h
  rw [List.take_succ_eq_append_getElem h', foldN_app]
  rfl

set_option maxHeartbeats 1000000 in
theorem sum_any (a : Option Addr) (len cap : Nat) (xs : List ByteArray) (w : World) (h : Tab w) (row : StrRow w a len cap xs) :
    Calls Tryd.prog 26 #[.slice a len cap] w fun r w' => r = .returned (.int .i64 ((sumN (cat xs) : Nat) : Int)) ∧ w = w' := by
  have hm := row.small
  unfold maxLen at hm
  have ROW : Hid (StrRow w a len cap xs) := row
  have TAB : Hid (Tab w) := h
  clear row h
  go_enter Tryd.func26, Tryd.ntmps26
  go_wp2
  go_loop [3, 9] (fun c i => ∃ (k C : Nat), k ≤ len ∧ i = .int .i64 k ∧ c = .int .u32 C ∧ C < 4294967296 ∧ Hid (C = foldN 4294967295 (cat (xs.take k)))) (fun _ i => len - (intOf i).toNat)
  case atStart => exact ⟨0, 4294967295, Nat.zero_le _, rfl, rfl, by decide, rfl⟩
  case round =>
    obtain ⟨k, C, hk, rfl, rfl, hC, eC⟩ := hrel
    by_cases hlt : k < len
    · obtain ⟨bx, o, rfl, hbx, hc⟩ := ROW.out.cells k hlt
      have hz := ROW.out.sizes k hlt
      unfold maxLen at hz
      have eT : Hid (cat (xs.take (k + 1)) = cat (xs.take k) ++ (xs.getD k ByteArray.empty).data.toList) := cat_take xs k (by rw [ROW.out.len_eq]; exact hlt)
      generalize xs.getD k ByteArray.empty = x at *
      go_wp2
      go_loop [3, 15] (fun c i => ∃ (j D : Nat), j ≤ x.size ∧ i = .int .i64 j ∧ c = .int .u32 D ∧ D < 4294967296 ∧ Hid (D = foldN C (x.data.toList.take j))) (fun _ i => x.size - (intOf i).toNat)
      case atStart => exact ⟨0, C, Nat.zero_le _, rfl, rfl, hC, rfl⟩
      case round =>
        obtain ⟨j, D, hj, rfl, rfl, hD, eD⟩ := hrel
        by_cases hlj : j < x.size
        · have T : Hid _ := foldN_take C x j hlj
          have S : Hid _ := step_any D x[j].toNat hD (UInt8.toNat_lt _) w TAB.out
          have hS : stepN D x[j].toNat < 4294967296 := stepN_lt hD (UInt8.toNat_lt _)
          go_wp2_with fail
          refine Calls.mono S.out ?_
          rintro e w' ⟨rfl, rfl⟩
          go_wp2
          refine ⟨⟨j + 1, _, by omega, by go_num, rfl, hS, ?_⟩, by simp [intOf]; omega⟩
          rw [Hid, T.out, ← eD.out]
        · have T : Hid (x.data.toList.take j = x.data.toList) := List.take_of_length_le (by simp; omega)
          go_wp2
          refine ⟨⟨k + 1, D, by omega, by go_num, rfl, hD, ?_⟩, by simp [intOf]; omega⟩
          rw [Hid, eT.out, foldN_app, ← eC.out, eD.out, T.out]
    · have e1 : bits .xor .u32 (C : Int) 4294967295 = ((C ^^^ 4294967295 : Nat) : Int) := u32_xor_nat C 4294967295 hC (by decide)
      have e2 : Hid (sumN (cat xs) = C ^^^ 4294967295) := by
        rw [Hid, sumN, eC.out, List.take_of_length_le (by rw [ROW.out.len_eq]; omega)]
      have e3 : C ^^^ 4294967295 < 4294967296 := xor_lt32 hC (by decide)
      generalize C ^^^ 4294967295 = S at *
      go_wp2
      go_ret
      rw [e2.out]
      exact ⟨rfl, rfl⟩

theorem row_new (xs : List ByteArray) (vs : Array Value) (w : World) (n : Nat) (hn : xs.length = n) (hv : vs = (xs.map Value.string).toArray) (hs : n ≤ 8) (hz : ∀ x ∈ xs, x.size ≤ maxLen) :
    StrRow (w.alloc (.cells vs 9)) (some ⟨w.heap.size, 0, none⟩) n n xs := by
  subst hn hv
  refine ⟨rfl, Nat.le_refl _, by unfold maxLen; omega, fun k hk => ?_, fun k hk => ⟨_, _, rfl, by simp, ?_⟩⟩
  · rw [List.getD_eq_getElem?_getD, List.getElem?_eq_getElem hk]
    exact hz _ (List.getElem_mem hk)
  · rw [World.cell?_alloc_at _ 9 _ (0 + k) rfl, Nat.zero_add, List.getD_eq_getElem?_getD, List.getElem?_eq_getElem hk]
    simp [hk]

theorem sum_new (xs : List ByteArray) (vs : Array Value) (w : World) (n : Nat) (h : Tab w) (hn : xs.length = n) (hv : vs = (xs.map Value.string).toArray) (hs : n ≤ 8) (hz : ∀ x ∈ xs, x.size ≤ maxLen) :
    Calls Tryd.prog 26 #[.slice (some ⟨w.heap.size, 0, none⟩) n n] (w.alloc (.cells vs 9)) fun r w' => r = .returned (.int .i64 ((sumN (cat xs) : Nat) : Int)) ∧ w.alloc (.cells vs 9) = w' :=
  sum_any _ n n xs _ (h.below ((Below.refl _ _).alloc (Nat.le_refl _) _)) (row_new xs vs w n hn hv hs hz)

theorem sum1 (x : ByteArray) (w : World) (h : Tab w) (hx : x.size ≤ maxLen) :
    Calls Tryd.prog 26 #[.slice (some ⟨w.heap.size, 0, none⟩) 1 1] (w.alloc (.cells #[.string x] 9)) fun r w' => r = .returned (.int .i64 ((sumN x.data.toList : Nat) : Int)) ∧ w.alloc (.cells #[.string x] 9) = w' := by
  have := sum_new [x] #[.string x] w 1 h rfl rfl (by decide) (by simpa using hx)
  rw [show cat [x] = x.data.toList by simp [cat]] at this
  exact this

theorem sum2 (x y : ByteArray) (w : World) (h : Tab w) (hx : x.size ≤ maxLen) (hy : y.size ≤ maxLen) :
    Calls Tryd.prog 26 #[.slice (some ⟨w.heap.size, 0, none⟩) 2 2] (w.alloc (.cells #[.string x, .string y] 9)) fun r w' => r = .returned (.int .i64 ((sumN (x.data.toList ++ y.data.toList) : Nat) : Int)) ∧ w.alloc (.cells #[.string x, .string y] 9) = w' := by
  have := sum_new [x, y] #[.string x, .string y] w 2 h rfl rfl (by decide) (by simpa using ⟨hx, hy⟩)
  rw [show cat [x, y] = x.data.toList ++ y.data.toList by simp [cat]] at this
  exact this

theorem sum3 (x y z : ByteArray) (w : World) (h : Tab w) (hx : x.size ≤ maxLen) (hy : y.size ≤ maxLen) (hz : z.size ≤ maxLen) :
    Calls Tryd.prog 26 #[.slice (some ⟨w.heap.size, 0, none⟩) 3 3] (w.alloc (.cells #[.string x, .string y, .string z] 9)) fun r w' => r = .returned (.int .i64 ((sumN (x.data.toList ++ (y.data.toList ++ z.data.toList)) : Nat) : Int)) ∧ w.alloc (.cells #[.string x, .string y, .string z] 9) = w' := by
  have := sum_new [x, y, z] #[.string x, .string y, .string z] w 3 h rfl rfl (by decide) (by simpa using ⟨hx, hy, hz⟩)
  rw [show cat [x, y, z] = x.data.toList ++ (y.data.toList ++ z.data.toList) by simp [cat]] at this
  exact this

theorem sum0 (w : World) (h : Tab w) : Calls Tryd.prog 26 #[.slice none 0 0] w fun r w' => r = .returned (.int .i64 0) ∧ w = w' :=
  sum_any none 0 0 [] w h ⟨rfl, Nat.le_refl _, by unfold maxLen; omega, fun k hk => absurd hk (Nat.not_lt_zero k), fun k hk => absurd hk (Nat.not_lt_zero k)⟩

theorem sumN_nine : ((sumN [49, 50, 51, 52, 53, 54, 55, 56, 57] : Nat) : Int) = 3421780262 := by decide +kernel
theorem step_zero : ((stepN 0 0 : Nat) : Int) = 0 := by decide

/-- The examples' blocks. -/
theorem nine1 (w : World) (h : Tab w) : Calls Tryd.prog 26 #[.slice (some ⟨w.heap.size, 0, none⟩) 1 1] (w.alloc (.cells #[.string ⟨#[49, 50, 51, 52, 53, 54, 55, 56, 57]⟩] 9)) fun r w' => r = .returned (.int .i64 3421780262) ∧ Below w.heap.size w w' := by
  have := sum1 ⟨#[49, 50, 51, 52, 53, 54, 55, 56, 57]⟩ w h (by decide)
  rw [sumN_nine] at this
  exact this.mono fun r w' ⟨h1, h2⟩ => ⟨h1, by subst h2; exact (Below.refl _ _).alloc (Nat.le_refl _) _⟩
theorem nine2 (w : World) (h : Tab w) : Calls Tryd.prog 26 #[.slice (some ⟨w.heap.size, 0, none⟩) 2 2] (w.alloc (.cells #[.string ⟨#[49, 50, 51, 52]⟩, .string ⟨#[53, 54, 55, 56, 57]⟩] 9)) fun r w' => r = .returned (.int .i64 3421780262) ∧ Below w.heap.size w w' := by
  have := sum2 ⟨#[49, 50, 51, 52]⟩ ⟨#[53, 54, 55, 56, 57]⟩ w h (by decide) (by decide)
  rw [show ((⟨#[49, 50, 51, 52]⟩ : ByteArray).data.toList ++ (⟨#[53, 54, 55, 56, 57]⟩ : ByteArray).data.toList) = [49, 50, 51, 52, 53, 54, 55, 56, 57] from rfl, sumN_nine] at this
  exact this.mono fun r w' ⟨h1, h2⟩ => ⟨h1, by subst h2; exact (Below.refl _ _).alloc (Nat.le_refl _) _⟩
end Go.Proofs.YtalljfckjkbieaaDoor

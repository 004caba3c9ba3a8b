/-
  The walk of the law CodecWrites: numbers and texts are written just as the document says, or refused; what is joined is one behind the other.
-/
import Derived.Test.YtciibbboimaccaaRefPut
import Derived.Test.YtciibbboimaccaaStopsWalk
import Derived.OpenShut
namespace Go.Proofs.Ytciibbboimaccaa
open Go.RowKit

/-- A slice of strings that came in, as the walk is told of it: the strings are xs. -/
structure StrRow (w : World) (a : Option Addr) (len cap : Nat) (xs : List ByteArray) : Prop where
  len_eq : xs.length = len
  le_cap : len ≤ cap
  cells : ∀ k, k < len → ∃ b o, a = some ⟨b, o, none⟩ ∧ b < w.heap.size ∧ w.cell? ⟨b, o + k, none⟩ = some (.string (xs.getD k ByteArray.empty))

theorem StrRow.below {w w' : World} {a : Option Addr} {len cap : Nat} {xs : List ByteArray} (h : StrRow w a len cap xs) (hb : Below w.heap.size w w') : StrRow w' a len cap xs := by
  refine ⟨h.len_eq, h.le_cap, fun k hk => ?_⟩
  obtain ⟨b, o, ha, hlt, hc⟩ := h.cells k hk
  exact ⟨b, o, ha, Nat.lt_of_lt_of_le hlt hb.size, by rw [hb.cell hlt]; exact hc⟩

theorem strRow_of {w : World} {x : Addr} {len cap : Nat} {ss : List ByteArray} (hl : len ≤ cap) (hz : ss.length = cap) (hc : ∀ i, i < ss.length → w.cell? (x.add i) = some (.string (ss.getD i ByteArray.empty))) :
    StrRow w (some x) len cap (ss.take len) := by
  refine ⟨by simp; omega, hl, fun k hk => ?_⟩
  have h1 := hc k (by omega)
  obtain ⟨b, o, spot⟩ := x
  have hspot : spot = none := by simpa [Addr.add] using World.cell?_spot (hc 0 (by omega))
  subst hspot
  rw [Go.WideShapes.add_plain] at h1
  refine ⟨b, o, rfl, cell_lt h1, ?_⟩
  rw [h1, List.getD_eq_getElem?_getD, List.getD_eq_getElem?_getD, List.getElem?_take_of_lt hk]

theorem join_row (a : Option Addr) (len cap : Nat) (xs : List ByteArray) (w : World) (h : StrRow w a len cap xs) (hn : len ≤ 50) (hl : (cat xs).length ≤ 140737488355328) :
    Calls Try.prog 13 #[.slice a len cap] w fun r w' => r = .returned (.string ⟨(cat xs).toArray⟩) ∧ Below w.heap.size w w' := by
  by_cases h0 : len = 0
  · subst h0
    have hx : xs = [] := List.length_eq_zero_iff.1 h.len_eq
    subst hx
    exact (join_none a cap w).mono fun r w' ⟨h1, h2⟩ => ⟨h1, by subst h2; exact Below.refl _ _⟩
  · obtain ⟨b, o, rfl, hlt, _⟩ := h.cells 0 (by omega)
    refine join_any b o cap len xs w (fun j x hj => ?_) hlt h.len_eq (by rw [h.len_eq]; omega) (by rw [h.len_eq]; exact h.le_cap) hl
    have hj' : j < len := by
      have := (List.getElem?_eq_some_iff.1 hj).1
      rw [h.len_eq] at this
      exact this
    obtain ⟨b', o', hab, _, hc⟩ := h.cells j hj'
    simp only [Option.some.injEq, Addr.mk.injEq, and_true] at hab
    obtain ⟨rfl, rfl⟩ := hab
    rw [hc, List.getD_eq_getElem?_getD, hj]
    rfl

theorem cat_take (xs : List ByteArray) (k : Nat) (h : k < xs.length) : cat (xs.take (k + 1)) = cat (xs.take k) ++ (xs.getD k ByteArray.empty).data.toList := by
  have e : xs.take (k + 1) = xs.take k ++ [xs.getD k ByteArray.empty] := by
    rw [List.take_succ_eq_append_getElem h, List.getD_eq_getElem?_getD, List.getElem?_eq_getElem h]
    rfl
  rw [e]
  unfold cat
  rw [List.map_append, List.flatten_append]
  simp

theorem ba_app (l : List UInt8) (x : ByteArray) : (⟨l.toArray⟩ : ByteArray) ++ x = ⟨(l ++ x.data.toList).toArray⟩ := by
  apply ba_ext
  rw [ByteArray.data_append]
  simp

theorem qput_yes (size n : Int) (h : putB size n = true) : qputS size n = putS size n ∧ putE size n = 0 := by
  have h3 : szB size = true ∧ 0 ≤ n ∧ n < ((256 ^ size.toNat : Nat) : Int) := by simpa [putB] using h
  refine ⟨?_, by simp [putE, h]⟩
  simp only [qputS, putS, h, h3.1, Bool.true_and, decide_eq_true h3.2.1, if_true]

theorem ba_app_one (c : UInt8) (x : ByteArray) : ((⟨#[c]⟩ : ByteArray) ++ x).toList = c :: x.data.toList := by
  rw [ByteArray.toList_eq, ByteArray.data_append]
  simp

namespace codecWrites
set_option maxHeartbeats 1000000 in
theorem walk_long (size n : Int) (s : ByteArray) (a : Option Addr) (len cap : Nat) (w : World) (_hs : s.size ≤ maxLen) (hl : 4096 < (s.size : Int)) :
    Calls Try.prog 3 #[.int .i64 size, .int .i64 n, .string s, .slice a len cap] w fun e w' => e = .returned (.bool true) ∧ Below w.heap.size w w' := by
  unfold maxLen at _hs
  go_enter Try.func3, Try.ntmps3
  go_wp2_with fail
  refine (works_any _).mono ?_
  rintro e w1 ⟨rfl, hb1⟩
  go_wp2
  go_ret
  exact ⟨rfl, hb1⟩

set_option maxHeartbeats 1000000 in
theorem walk_many (size n : Int) (s : ByteArray) (a : Option Addr) (len cap : Nat) (w : World) (_hl : ¬ 4096 < (s.size : Int)) (hn : 50 < (len : Int)) :
    Calls Try.prog 3 #[.int .i64 size, .int .i64 n, .string s, .slice a len cap] w fun e w' => e = .returned (.bool true) ∧ Below w.heap.size w w' := by
  go_enter Try.func3, Try.ntmps3
  go_wp2_with fail
  refine (works_any _).mono ?_
  rintro e w1 ⟨rfl, hb1⟩
  go_wp2
  go_ret
  exact ⟨rfl, hb1⟩

set_option maxRecDepth 100000 in
set_option maxHeartbeats 4000000 in
theorem walk_yes_short (size n : Int) (s : ByteArray) (a : Option Addr) (len cap : Nat) (xs : List ByteArray) (w : World) (hn9 : n ≤ 9223372036854775807) (hl : ¬ 4096 < (s.size : Int)) (hn : ¬ 50 < (len : Int))
    (row : StrRow w a len cap xs) (hp : putB size n = true) (ht : s.size < 256) :
    Calls Try.prog 3 #[.int .i64 size, .int .i64 n, .string s, .slice a len cap] w fun e w' => e = .returned (.bool true) ∧ Below w.heap.size w w' := by
  have gs : s.size ≤ maxLen := by unfold maxLen; omega
  have ROW : Hid (StrRow w a len cap xs) := row
  clear row
  have P : ∀ w, Hid (Calls _ _ _ w _) := fun w => put_any size n w
  have Q : ∀ w, Hid (Calls _ _ _ w _) := fun w => qput_any size n w hn9
  have T : ∀ w, Hid (Calls _ _ _ w _) := fun w => text_any s w gs
  obtain ⟨q1, q2⟩ := qput_yes size n hp
  rw [q2] at P
  rw [hp, q1] at Q
  clear q1 q2 hp hn9
  generalize putS size n = p0 at *
  have t1 : textS s = UInt8.ofNat s.size :: s.data.toList := by have : s.size ≤ 255 := by omega
                                                                simp [textS, this]
  have t2 : textE s = 0 := by have : s.size ≤ 255 := by omega
                              simp [textE, this]
  rw [t1, t2] at T
  clear t1 t2
  have ht' : (s.size : Int) < 256 := by omega
  have ht2 : ¬ 255 < (s.size : Int) := by omega
  go_enter Try.func3, Try.ntmps3
  go_wp2_with fail
  refine (works_any _).mono ?_
  rintro e w1 ⟨rfl, hb1⟩
  go_wp2_with fail
  refine Calls.mono (P _).out ?_
  rintro e w2 ⟨rfl, hb2⟩
  go_wp2_with fail
  refine Calls.mono (Q _).out ?_
  rintro e w3 ⟨rfl, hb3⟩
  go_wp2_with fail
  refine Calls.mono (T _).out ?_
  rintro e w4 ⟨rfl, hb4⟩
  have k1 := hb1.size
  have k2 := hb2.size
  have k3 := hb3.size
  have F4 : Hid (Below w.heap.size w w4) := ((hb1.trans (hb2.mono k1)).trans (hb3.mono (by omega))).trans (hb4.mono (by omega))
  clear hb1 hb2 hb3 hb4 k1 k2 k3 P Q T
  have hcv := conv_new [UInt8.ofNat s.size] #[.int .u8 (s.size : Int)] w4 1 1 (by simp; omega) rfl
  have hcc := ba_app_one (UInt8.ofNat s.size) s
  go_wp2
  have F5 : Hid (Below w.heap.size w (w4.alloc (Obj.cells #[Value.int IntKind.u8 (s.size : Int)] 5))) := F4.out.alloc F4.out.size _
  have R5 : Hid (StrRow (w4.alloc (Obj.cells #[Value.int IntKind.u8 (s.size : Int)] 5)) a len cap xs) := ROW.out.below F5.out
  go_loop [16, 17] (fun al i => ∃ (k : Nat) (A : List UInt8), k ≤ len ∧ i = .int .i64 k ∧ al = .string ⟨A.toArray⟩ ∧ A.length ≤ k * 4096 ∧ Hid (A = cat (xs.take k))) (fun _ i => len - (intOf i).toNat)
  case atStart => exact ⟨0, [], by omega, rfl, rfl, by simp, by simp [Hid, cat]⟩
  case round =>
    obtain ⟨k, A, hk, rfl, rfl, lA, eA⟩ := hrel
    by_cases hlt : k < len
    · obtain ⟨bx, o, rfl, hbx, hc⟩ := R5.out.cells k hlt
      have eT : Hid (cat (xs.take (k + 1)) = cat (xs.take k) ++ (xs.getD k ByteArray.empty).data.toList) := cat_take xs k (by rw [R5.out.len_eq]; exact hlt)
      generalize xs.getD k ByteArray.empty = x at *
      by_cases hx : 4096 < (x.size : Int)
      · go_wp2
        go_ret
        exact ⟨rfl, F5.out⟩
      · go_wp2
        refine ⟨⟨k + 1, A ++ x.data.toList, by omega, by go_num, congrArg Value.string (ba_app A x), ?_, ?_⟩, by simp [intOf]; omega⟩
        · have := Lib.size_eq x
          rw [List.length_append]
          omega
        · rw [Hid, eT.out, ← eA.out]
    · have eC : cat xs = A := by
        rw [eA.out, List.take_of_length_le (by rw [R5.out.len_eq]; omega)]
      have J : Hid _ := join_row a len cap xs _ R5.out (by omega) (by rw [eC]; omega)
      rw [eC] at J
      clear eC
      go_wp2_with fail
      refine Calls.mono J.out ?_
      rintro r w6 ⟨rfl, hb6⟩
      go_wp2
      go_ret
      exact ⟨rfl, F5.out.trans (hb6.mono F5.out.size)⟩

set_option maxRecDepth 100000 in
set_option maxHeartbeats 4000000 in
theorem walk_yes_long (size n : Int) (s : ByteArray) (a : Option Addr) (len cap : Nat) (xs : List ByteArray) (w : World) (hn9 : n ≤ 9223372036854775807) (hl : ¬ 4096 < (s.size : Int)) (hn : ¬ 50 < (len : Int))
    (row : StrRow w a len cap xs) (hp : putB size n = true) (ht : ¬ s.size < 256) :
    Calls Try.prog 3 #[.int .i64 size, .int .i64 n, .string s, .slice a len cap] w fun e w' => e = .returned (.bool true) ∧ Below w.heap.size w w' := by
  have gs : s.size ≤ maxLen := by unfold maxLen; omega
  have ROW : Hid (StrRow w a len cap xs) := row
  clear row
  have P : ∀ w, Hid (Calls _ _ _ w _) := fun w => put_any size n w
  have Q : ∀ w, Hid (Calls _ _ _ w _) := fun w => qput_any size n w hn9
  have T : ∀ w, Hid (Calls _ _ _ w _) := fun w => text_any s w gs
  obtain ⟨q1, q2⟩ := qput_yes size n hp
  rw [q2] at P
  rw [hp, q1] at Q
  clear q1 q2 hp hn9
  generalize putS size n = p0 at *
  have t1 : textS s = [] := by have : ¬ s.size ≤ 255 := by omega
                               simp [textS, this]
  have t2 : textE s = 1 := by have : ¬ s.size ≤ 255 := by omega
                              simp [textE, this]
  rw [t1, t2] at T
  clear t1 t2
  have ht' : ¬ (s.size : Int) < 256 := by omega
  have ht2 : 255 < (s.size : Int) := by omega
  go_enter Try.func3, Try.ntmps3
  go_wp2_with fail
  refine (works_any _).mono ?_
  rintro e w1 ⟨rfl, hb1⟩
  go_wp2_with fail
  refine Calls.mono (P _).out ?_
  rintro e w2 ⟨rfl, hb2⟩
  go_wp2_with fail
  refine Calls.mono (Q _).out ?_
  rintro e w3 ⟨rfl, hb3⟩
  go_wp2_with fail
  refine Calls.mono (T _).out ?_
  rintro e w4 ⟨rfl, hb4⟩
  have k1 := hb1.size
  have k2 := hb2.size
  have k3 := hb3.size
  have F4 : Hid (Below w.heap.size w w4) := ((hb1.trans (hb2.mono k1)).trans (hb3.mono (by omega))).trans (hb4.mono (by omega))
  clear hb1 hb2 hb3 hb4 k1 k2 k3 P Q T
  go_wp2
  have F5 : Hid (Below w.heap.size w w4) := F4.out
  have R5 : Hid (StrRow w4 a len cap xs) := ROW.out.below F5.out
  go_loop [16, 17] (fun al i => ∃ (k : Nat) (A : List UInt8), k ≤ len ∧ i = .int .i64 k ∧ al = .string ⟨A.toArray⟩ ∧ A.length ≤ k * 4096 ∧ Hid (A = cat (xs.take k))) (fun _ i => len - (intOf i).toNat)
  case atStart => exact ⟨0, [], by omega, rfl, rfl, by simp, by simp [Hid, cat]⟩
  case round =>
    obtain ⟨k, A, hk, rfl, rfl, lA, eA⟩ := hrel
    by_cases hlt : k < len
    · obtain ⟨bx, o, rfl, hbx, hc⟩ := R5.out.cells k hlt
      have eT : Hid (cat (xs.take (k + 1)) = cat (xs.take k) ++ (xs.getD k ByteArray.empty).data.toList) := cat_take xs k (by rw [R5.out.len_eq]; exact hlt)
      generalize xs.getD k ByteArray.empty = x at *
      by_cases hx : 4096 < (x.size : Int)
      · go_wp2
        go_ret
        exact ⟨rfl, F5.out⟩
      · go_wp2
        refine ⟨⟨k + 1, A ++ x.data.toList, by omega, by go_num, congrArg Value.string (ba_app A x), ?_, ?_⟩, by simp [intOf]; omega⟩
        · have := Lib.size_eq x
          rw [List.length_append]
          omega
        · rw [Hid, eT.out, ← eA.out]
    · have eC : cat xs = A := by
        rw [eA.out, List.take_of_length_le (by rw [R5.out.len_eq]; omega)]
      have J : Hid _ := join_row a len cap xs _ R5.out (by omega) (by rw [eC]; omega)
      rw [eC] at J
      clear eC
      go_wp2_with fail
      refine Calls.mono J.out ?_
      rintro r w6 ⟨rfl, hb6⟩
      go_wp2
      go_ret
      exact ⟨rfl, F5.out.trans (hb6.mono F5.out.size)⟩

set_option maxRecDepth 100000 in
set_option maxHeartbeats 4000000 in
theorem walk_no_short (size n : Int) (s : ByteArray) (a : Option Addr) (len cap : Nat) (xs : List ByteArray) (w : World) (hn9 : n ≤ 9223372036854775807) (hl : ¬ 4096 < (s.size : Int)) (hn : ¬ 50 < (len : Int))
    (row : StrRow w a len cap xs) (hp : putB size n = false) (ht : s.size < 256) :
    Calls Try.prog 3 #[.int .i64 size, .int .i64 n, .string s, .slice a len cap] w fun e w' => e = .returned (.bool true) ∧ Below w.heap.size w w' := by
  have gs : s.size ≤ maxLen := by unfold maxLen; omega
  have ROW : Hid (StrRow w a len cap xs) := row
  clear row
  have P : ∀ w, Hid (Calls _ _ _ w _) := fun w => put_any size n w
  have Q : ∀ w, Hid (Calls _ _ _ w _) := fun w => qput_any size n w hn9
  have T : ∀ w, Hid (Calls _ _ _ w _) := fun w => text_any s w gs
  have q1 : putS size n = [] := by simp [putS, hp]
  have q2 : putE size n = 1 := by simp [putE, hp]
  rw [q1, q2] at P
  rw [hp] at Q
  clear q1 q2 hp hn9
  generalize qputS size n = p0 at *
  have t1 : textS s = UInt8.ofNat s.size :: s.data.toList := by have : s.size ≤ 255 := by omega
                                                                simp [textS, this]
  have t2 : textE s = 0 := by have : s.size ≤ 255 := by omega
                              simp [textE, this]
  rw [t1, t2] at T
  clear t1 t2
  have ht' : (s.size : Int) < 256 := by omega
  have ht2 : ¬ 255 < (s.size : Int) := by omega
  go_enter Try.func3, Try.ntmps3
  go_wp2_with fail
  refine (works_any _).mono ?_
  rintro e w1 ⟨rfl, hb1⟩
  go_wp2_with fail
  refine Calls.mono (P _).out ?_
  rintro e w2 ⟨rfl, hb2⟩
  go_wp2_with fail
  refine Calls.mono (Q _).out ?_
  rintro e w3 ⟨rfl, hb3⟩
  go_wp2_with fail
  refine Calls.mono (T _).out ?_
  rintro e w4 ⟨rfl, hb4⟩
  have k1 := hb1.size
  have k2 := hb2.size
  have k3 := hb3.size
  have F4 : Hid (Below w.heap.size w w4) := ((hb1.trans (hb2.mono k1)).trans (hb3.mono (by omega))).trans (hb4.mono (by omega))
  clear hb1 hb2 hb3 hb4 k1 k2 k3 P Q T
  have hcv := conv_new [UInt8.ofNat s.size] #[.int .u8 (s.size : Int)] w4 1 1 (by simp; omega) rfl
  have hcc := ba_app_one (UInt8.ofNat s.size) s
  go_wp2
  have F5 : Hid (Below w.heap.size w (w4.alloc (Obj.cells #[Value.int IntKind.u8 (s.size : Int)] 5))) := F4.out.alloc F4.out.size _
  have R5 : Hid (StrRow (w4.alloc (Obj.cells #[Value.int IntKind.u8 (s.size : Int)] 5)) a len cap xs) := ROW.out.below F5.out
  go_loop [16, 17] (fun al i => ∃ (k : Nat) (A : List UInt8), k ≤ len ∧ i = .int .i64 k ∧ al = .string ⟨A.toArray⟩ ∧ A.length ≤ k * 4096 ∧ Hid (A = cat (xs.take k))) (fun _ i => len - (intOf i).toNat)
  case atStart => exact ⟨0, [], by omega, rfl, rfl, by simp, by simp [Hid, cat]⟩
  case round =>
    obtain ⟨k, A, hk, rfl, rfl, lA, eA⟩ := hrel
    by_cases hlt : k < len
    · obtain ⟨bx, o, rfl, hbx, hc⟩ := R5.out.cells k hlt
      have eT : Hid (cat (xs.take (k + 1)) = cat (xs.take k) ++ (xs.getD k ByteArray.empty).data.toList) := cat_take xs k (by rw [R5.out.len_eq]; exact hlt)
      generalize xs.getD k ByteArray.empty = x at *
      by_cases hx : 4096 < (x.size : Int)
      · go_wp2
        go_ret
        exact ⟨rfl, F5.out⟩
      · go_wp2
        refine ⟨⟨k + 1, A ++ x.data.toList, by omega, by go_num, congrArg Value.string (ba_app A x), ?_, ?_⟩, by simp [intOf]; omega⟩
        · have := Lib.size_eq x
          rw [List.length_append]
          omega
        · rw [Hid, eT.out, ← eA.out]
    · have eC : cat xs = A := by
        rw [eA.out, List.take_of_length_le (by rw [R5.out.len_eq]; omega)]
      have J : Hid _ := join_row a len cap xs _ R5.out (by omega) (by rw [eC]; omega)
      rw [eC] at J
      clear eC
      go_wp2_with fail
      refine Calls.mono J.out ?_
      rintro r w6 ⟨rfl, hb6⟩
      go_wp2
      go_ret
      exact ⟨rfl, F5.out.trans (hb6.mono F5.out.size)⟩

set_option maxRecDepth 100000 in
set_option maxHeartbeats 4000000 in
theorem walk_no_long (size n : Int) (s : ByteArray) (a : Option Addr) (len cap : Nat) (xs : List ByteArray) (w : World) (hn9 : n ≤ 9223372036854775807) (hl : ¬ 4096 < (s.size : Int)) (hn : ¬ 50 < (len : Int))
    (row : StrRow w a len cap xs) (hp : putB size n = false) (ht : ¬ s.size < 256) :
    Calls Try.prog 3 #[.int .i64 size, .int .i64 n, .string s, .slice a len cap] w fun e w' => e = .returned (.bool true) ∧ Below w.heap.size w w' := by
  have gs : s.size ≤ maxLen := by unfold maxLen; omega
  have ROW : Hid (StrRow w a len cap xs) := row
  clear row
  have P : ∀ w, Hid (Calls _ _ _ w _) := fun w => put_any size n w
  have Q : ∀ w, Hid (Calls _ _ _ w _) := fun w => qput_any size n w hn9
  have T : ∀ w, Hid (Calls _ _ _ w _) := fun w => text_any s w gs
  have q1 : putS size n = [] := by simp [putS, hp]
  have q2 : putE size n = 1 := by simp [putE, hp]
  rw [q1, q2] at P
  rw [hp] at Q
  clear q1 q2 hp hn9
  generalize qputS size n = p0 at *
  have t1 : textS s = [] := by have : ¬ s.size ≤ 255 := by omega
                               simp [textS, this]
  have t2 : textE s = 1 := by have : ¬ s.size ≤ 255 := by omega
                              simp [textE, this]
  rw [t1, t2] at T
  clear t1 t2
  have ht' : ¬ (s.size : Int) < 256 := by omega
  have ht2 : 255 < (s.size : Int) := by omega
  go_enter Try.func3, Try.ntmps3
  go_wp2_with fail
  refine (works_any _).mono ?_
  rintro e w1 ⟨rfl, hb1⟩
  go_wp2_with fail
  refine Calls.mono (P _).out ?_
  rintro e w2 ⟨rfl, hb2⟩
  go_wp2_with fail
  refine Calls.mono (Q _).out ?_
  rintro e w3 ⟨rfl, hb3⟩
  go_wp2_with fail
  refine Calls.mono (T _).out ?_
  rintro e w4 ⟨rfl, hb4⟩
  have k1 := hb1.size
  have k2 := hb2.size
  have k3 := hb3.size
  have F4 : Hid (Below w.heap.size w w4) := ((hb1.trans (hb2.mono k1)).trans (hb3.mono (by omega))).trans (hb4.mono (by omega))
  clear hb1 hb2 hb3 hb4 k1 k2 k3 P Q T
  go_wp2
  have F5 : Hid (Below w.heap.size w w4) := F4.out
  have R5 : Hid (StrRow w4 a len cap xs) := ROW.out.below F5.out
  go_loop [16, 17] (fun al i => ∃ (k : Nat) (A : List UInt8), k ≤ len ∧ i = .int .i64 k ∧ al = .string ⟨A.toArray⟩ ∧ A.length ≤ k * 4096 ∧ Hid (A = cat (xs.take k))) (fun _ i => len - (intOf i).toNat)
  case atStart => exact ⟨0, [], by omega, rfl, rfl, by simp, by simp [Hid, cat]⟩
  case round =>
    obtain ⟨k, A, hk, rfl, rfl, lA, eA⟩ := hrel
    by_cases hlt : k < len
    · obtain ⟨bx, o, rfl, hbx, hc⟩ := R5.out.cells k hlt
      have eT : Hid (cat (xs.take (k + 1)) = cat (xs.take k) ++ (xs.getD k ByteArray.empty).data.toList) := cat_take xs k (by rw [R5.out.len_eq]; exact hlt)
      generalize xs.getD k ByteArray.empty = x at *
      by_cases hx : 4096 < (x.size : Int)
      · go_wp2
        go_ret
        exact ⟨rfl, F5.out⟩
      · go_wp2
        refine ⟨⟨k + 1, A ++ x.data.toList, by omega, by go_num, congrArg Value.string (ba_app A x), ?_, ?_⟩, by simp [intOf]; omega⟩
        · have := Lib.size_eq x
          rw [List.length_append]
          omega
        · rw [Hid, eT.out, ← eA.out]
    · have eC : cat xs = A := by
        rw [eA.out, List.take_of_length_le (by rw [R5.out.len_eq]; omega)]
      have J : Hid _ := join_row a len cap xs _ R5.out (by omega) (by rw [eC]; omega)
      rw [eC] at J
      clear eC
      go_wp2_with fail
      refine Calls.mono J.out ?_
      rintro r w6 ⟨rfl, hb6⟩
      go_wp2
      go_ret
      exact ⟨rfl, F5.out.trans (hb6.mono F5.out.size)⟩

theorem walk (size n : Int) (s : ByteArray) (a : Option Addr) (len cap : Nat) (xs : List ByteArray) (w : World) (hn9 : n ≤ 9223372036854775807) (hs : s.size ≤ maxLen) (row : StrRow w a len cap xs) :
    Calls Try.prog 3 #[.int .i64 size, .int .i64 n, .string s, .slice a len cap] w fun e w' => e = .returned (.bool true) ∧ Below w.heap.size w w' := by
  by_cases hl : 4096 < (s.size : Int)
  · exact walk_long size n s a len cap w hs hl
  · by_cases hn : 50 < (len : Int)
    · exact walk_many size n s a len cap w hl hn
    · cases hp : putB size n
      · by_cases ht : s.size < 256
        · exact walk_no_short size n s a len cap xs w hn9 hl hn row hp ht
        · exact walk_no_long size n s a len cap xs w hn9 hl hn row hp ht
      · by_cases ht : s.size < 256
        · exact walk_yes_short size n s a len cap xs w hn9 hl hn row hp ht
        · exact walk_yes_long size n s a len cap xs w hn9 hl hn row hp ht

end codecWrites

end Go.Proofs.Ytciibbboimaccaa

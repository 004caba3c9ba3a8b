/-
  The walks of the document's answer for layer 5: rootstockref05's Seal, Open and Check, and rootstockref01's Int.
-/
import Derived.Test.YtkbakmgjplhjiaaDoorPgWorks
import Derived.Test.YtkbakmgjplhjiaaDoorCrRef
import Derived.Test.YtkbakmgjplhjiaaDoorCdRefPut
import Derived.Deep.QuietTactic
namespace Go.Proofs.YtkbakmgjplhjiaaDoor
open Go.RowKit

theorem below_more {B : Nat} {u w : World} (h : Below B u w) (n : Nat) : Below B u (w.drewN n) := ⟨h.os, h.tape, h.output, h.size, h.block⟩

theorem beNat_take_le (l : List UInt8) (k : Nat) (h : k ≤ 4) : beNat (l.take k) < 4294967296 := by
  have h1 := beNat_lt (l.take k)
  have h2 : (l.take k).length ≤ 4 := by simp; omega
  have h3 : 256 ^ (l.take k).length ≤ 256 ^ 4 := Nat.pow_le_pow_right (by omega) h2
  have h4 : (256 : Nat) ^ 4 = 4294967296 := by decide
  omega

set_option maxHeartbeats 1000000 in
theorem refInt (x : ByteArray) (w : World) (hx : x.size ≤ 4) :
    Calls Tryd.prog 56 #[.string x] w fun r w' => r = .returned (.int .i64 ((beNat x.data.toList : Nat) : Int)) ∧ w = w' := by
  go_enter Tryd.func56, Tryd.ntmps56
  go_wp2
  go_loop [3, 4] (fun v i => ∃ k M : Nat, k ≤ x.size ∧ i = .int .i64 k ∧ v = .int .i64 M ∧ M < 4294967296 ∧ Hid (M = beNat (x.data.toList.take k))) (fun _ i => x.size - (intOf i).toNat)
  case atStart => exact ⟨0, 0, Nat.zero_le _, rfl, rfl, by decide, rfl⟩
  case round =>
    obtain ⟨k, M, hk, rfl, rfl, hM, eM⟩ := hrel
    by_cases hlt : k < x.size
    · have T : Hid (beNat (x.data.toList.take (k + 1)) = beNat (x.data.toList.take k) * 256 + x[k].toNat) := beNat_take x.data.toList k (by simpa using hlt)
      have B := beNat_take_le x.data.toList (k + 1) (by omega)
      have B2 := beNat_take_lt x.data.toList k (by omega)
      have C8 : x[k].toNat < 256 := UInt8.toNat_lt _
      rw [T.out] at B
      rw [← eM.out] at B B2
      go_wp2
      refine ⟨⟨k + 1, M * 256 + x[k].toNat, by omega, by go_num, by go_num, by omega, ?_⟩, by simp [intOf]; omega⟩
      rw [Hid, T.out, ← eM.out]
    · have T : Hid (x.data.toList.take k = x.data.toList) := List.take_of_length_le (by simp; omega)
      go_wp2
      go_ret
      rw [← T.out, ← eM.out]
      exact ⟨rfl, rfl⟩

theorem qok_put (N : Nat) : qok 4 N = putB 4 (N : Int) := by
  by_cases h : N < 4294967296
  · have h1 : putB 4 (N : Int) = true := (putB4 _).2 ⟨by omega, by omega⟩
    rw [h1]
    unfold qok
    rw [show N / 256 ^ 4 = 0 by rw [show 256 ^ 4 = 4294967296 by decide]; omega]
    rfl
  · have h1 : putB 4 (N : Int) = false := by
      rw [Bool.eq_false_iff]
      intro e
      have := (putB4 _).1 e
      omega
    rw [h1]
    unfold qok
    rw [show (256 ^ 4 : Nat) = 4294967296 by decide, beq_eq_false_iff_ne]
    omega

theorem conv_two (k : UInt8) (w : World) :
    Sem.run Tryd.prog (convert 91 9 (.slice (some ⟨w.heap.size, 0, none⟩) 2 2)) (w.alloc (.cells #[.int .u8 (k.toNat : Int), .int .u8 0] 5)) = .ok (.string ⟨#[k, 0]⟩) (w.alloc (.cells #[.int .u8 (k.toNat : Int), .int .u8 0] 5)) :=
  conv_new [k, 0] #[.int .u8 (k.toNat : Int), .int .u8 0] w 2 2 (by simp) rfl

theorem head_ba (n : Nat) (k : UInt8) (b : ByteArray) :
    ((((⟨(beBytes 4 n).toArray⟩ : ByteArray) ++ ⟨#[k, 0]⟩) ++ ⟨(beBytes 2 b.size).toArray⟩) ++ ⟨#[0, 0, 0, 0]⟩) ++ b = ⟨(beBytes 4 n ++ ([k] ++ ([0] ++ (beBytes 2 b.data.toList.length ++ (List.replicate 4 0 ++ b.data.toList))))).toArray⟩ := by
  apply ba_ext
  simp only [ByteArray.data_append, Array.toList_append, List.append_assoc]
  rw [show b.data.toList.length = b.size by simp]
  rfl

theorem ba_app (l m : List UInt8) : (⟨l.toArray⟩ : ByteArray) ++ ⟨m.toArray⟩ = ⟨(l ++ m).toArray⟩ := by
  apply ba_ext
  simp [ByteArray.data_append]

/-- What the document's Seal answers. -/
def rSealB (id : Int) (n : Nat) : Bool := decide (sealE id n = 0)

set_option maxRecDepth 100000 in
set_option maxHeartbeats 2000000 in
theorem refSeal_ok (n : Nat) (k : UInt8) (b : ByteArray) (w : World) (hn : n < 4294967296) (hb : b.size ≤ 240) :
    Calls Tryd.prog 38 #[.int .i64 n, .int .u8 (k.toNat : Int), .string b] w fun e w' => e = .returned (.tuple #[.string ⟨(pageL n k b.data.toList).toArray⟩, .bool true]) ∧ Below w.heap.size w w' := by
  have hq : qok 4 n = true := by rw [qok_put]; exact (putB4 _).2 ⟨by omega, by omega⟩
  have hbl : b.data.toList.length = b.size := by simp
  obtain ⟨H, eH⟩ : ∃ H : List UInt8, H = beBytes 4 n ++ ([k] ++ ([0] ++ (beBytes 2 b.data.toList.length ++ (List.replicate 4 0 ++ b.data.toList)))) := ⟨_, rfl⟩
  have hH : H.length = 12 + b.size := by rw [eH]; simp [beBytes_length]; omega
  have ER : Hid (restL n k b.data.toList = H ++ List.replicate (240 - b.size) 0) := by
    show _ = _
    rw [eH, restL, hbl]
    simp only [List.append_assoc]
  have EH : Hid _ := head_ba n k b
  rw [← eH] at EH
  have l4 : (beBytes 4 n).length = 4 := beBytes_length _ _
  have l2 : (beBytes 2 b.size).length = 2 := beBytes_length _ _
  have C1 : Hid _ := qput4 n w (by omega)
  rw [hq] at C1
  have EP : Hid (pageL n k b.data.toList = beBytes 4 (sumN (restL n k b.data.toList)) ++ restL n k b.data.toList) := rfl
  have hS : sumN (restL n k b.data.toList) < 4294967296 := sumN_lt _
  have hR : (restL n k b.data.toList).length = 252 := restL_length _ _ _ (by simpa using hb)
  generalize restL n k b.data.toList = R at *
  generalize pageL n k b.data.toList = G at *
  generalize beBytes 4 n = X at *
  have C2 : Hid (∀ w1, Calls Tryd.prog 61 #[.int .i64 2, .int .i64 (b.size : Nat)] w1 fun r w' => r = .returned (.tuple #[.string ⟨(beBytes 2 b.size).toArray⟩, .bool (qok 2 b.size)]) ∧ Below w1.heap.size w1 w') := fun w1 => qput2 b.size w1 (by omega)
  generalize beBytes 2 b.size = Y at *
  generalize qok 2 b.size = y at *
  clear eH hq
  go_enter Tryd.func38, Tryd.ntmps38
  go_wp2_with fail
  refine Calls.mono C1.out ?_
  rintro e w1 ⟨rfl, b1⟩
  have B1 : Hid (Below w.heap.size w w1) := b1
  clear b1 C1
  have D : Hid _ := C2.out w1
  go_wp2_with fail
  refine Calls.mono D.out ?_
  rintro e w2 ⟨rfl, b2⟩
  have B2 : Hid (Below w.heap.size w w2) := B1.out.trans (b2.mono B1.out.size)
  clear b2 C2 D
  have hcv := conv_two k w2
  obtain ⟨w3, e3⟩ : ∃ w3, w3 = w2.alloc (.cells #[.int .u8 (k.toNat : Int), .int .u8 0] 5) := ⟨_, rfl⟩
  have B3 : Hid (Below w.heap.size w w3) := by show Below _ _ _; rw [e3]; exact B2.out.alloc B2.out.size _
  go_wp2
  rw [← e3, EH.out]
  clear e3 hcv
  go_loopg [12] 240 (fun gk s12 wr => ∃ (j : Nat) (t : ByteArray), s12 = .string t ∧ t.size = 12 + b.size + j ∧ j ≤ 240 - b.size ∧ 240 - b.size - j ≤ gk ∧ Hid (t = ⟨(H ++ List.replicate j 0).toArray⟩) ∧ wr = w3)
  case atStart => exact ⟨0, _, rfl, by rw [ba_size]; omega, by omega, by omega, by simp [Hid], rfl⟩
  case round =>
    obtain ⟨j, t, rfl, hsz, hj, hge, HT, rfl⟩ := hrel
    by_cases hlt : j < 240 - b.size
    · have hlt' : (t.size : Int) < 252 := by omega
      go_wp2
      go_roundg (240 - b.size - (j + 1))
      case measure => omega
      case rel =>
        refine ⟨j + 1, t ++ ⟨#[0]⟩, rfl, ?_, by omega, Nat.le_refl _, ?_, rfl⟩
        · rw [ByteArray.size_append, hsz]; rfl
        · show _ = _
          rw [HT.out, show (⟨#[0]⟩ : ByteArray) = ⟨[0].toArray⟩ from rfl, ba_app, List.append_assoc]
          congr 3
          exact (List.replicate_succ' ..).symm
    · have ET : Hid (t = ⟨R.toArray⟩) := by
        show _ = _
        rw [HT.out, ER.out, show j = 240 - b.size by omega]
      have hlt' : ¬ (t.size : Int) < 252 := by omega
      have ht : t.size = 252 := by omega
      have D1 : Hid _ := refSum t wr (by rw [ht]; decide)
      rw [show t.data.toList = R by rw [ET.out]] at D1
      have D2 : Hid _ := qput4 (sumN R) wr (by omega)
      have l4s : (beBytes 4 (sumN R)).length = 4 := beBytes_length _ _
      clear hsz hj hge hlt HT hlt'
      generalize sumN R = S at *
      generalize beBytes 4 S = Z at *
      go_wp2_with fail
      refine Calls.mono D1.out ?_
      rintro e w5 ⟨rfl, rfl⟩
      go_wp2_with fail
      refine Calls.mono D2.out ?_
      rintro e w6 ⟨rfl, b6⟩
      have B6 : Hid (Below w.heap.size w w6) := B3.out.trans (b6.mono B3.out.size)
      clear b6 D1 D2
      go_wp2
      go_ret2
      rw [EP.out, ET.out, ba_app]
      exact ⟨rfl, B6.out⟩

theorem refSeal_no (id : Int) (k : UInt8) (b : ByteArray) (w : World) (hi : id ≤ 9223372036854775807) (hm : b.size ≤ maxLen) (h : sealE id b.size ≠ 0) :
    Calls Tryd.prog 38 #[.int .i64 id, .int .u8 (k.toNat : Int), .string b] w fun e w' => e = .returned (.tuple #[.string ⟨#[]⟩, .bool false]) ∧ Below w.heap.size w w' := by
  unfold maxLen at hm
  have HN : Hid (sealE id b.size ≠ 0) := h
  clear h
  by_cases hn : id < 0
  · have C1 : Hid _ := qput_neg id w hn
    go_enter Tryd.func38, Tryd.ntmps38
    go_wp2_with fail
    refine Calls.mono C1.out ?_
    rintro e w1 ⟨rfl, rfl⟩
    go_wp2
    go_ret2
    exact ⟨rfl, Below.refl _ _⟩
  · obtain ⟨n, rfl⟩ := Int.eq_ofNat_of_zero_le (Int.not_lt.1 hn)
    have C1 : Hid _ := qput4 n w hi
    rw [qok_put] at C1
    cases hp : putB 4 (n : Int)
    · rw [hp] at C1
      clear hp
      go_enter Tryd.func38, Tryd.ntmps38
      go_wp2_with fail
      refine Calls.mono C1.out ?_
      rintro e w1 ⟨rfl, b1⟩
      have B1 : Hid (Below w.heap.size w w1) := b1
      clear b1
      go_wp2
      go_ret2
      exact ⟨rfl, B1.out⟩
    · have hb : 240 < b.size := by
        rcases Nat.lt_or_ge 240 b.size with h | h
        · exact h
        · exact absurd (sealE_zero.2 ⟨h, (putB4 _).1 hp⟩) HN.out
      rw [hp] at C1
      clear hp
      go_enter Tryd.func38, Tryd.ntmps38
      go_wp2_with fail
      refine Calls.mono C1.out ?_
      rintro e w1 ⟨rfl, b1⟩
      have B1 : Hid (Below w.heap.size w w1) := b1
      clear b1
      go_wp2
      go_ret2
      exact ⟨rfl, B1.out⟩

theorem refSeal_any (id : Int) (k : UInt8) (b : ByteArray) (w : World) (hi : id ≤ 9223372036854775807) (hm : b.size ≤ maxLen) :
    Calls Tryd.prog 38 #[.int .i64 id, .int .u8 (k.toNat : Int), .string b] w fun e w' => e = .returned (.tuple #[.string ⟨(sealS id k b.data.toList).toArray⟩, .bool (rSealB id b.size)]) ∧ Below w.heap.size w w' := by
  have hsz : b.data.toList.length = b.size := by simp
  unfold rSealB
  by_cases h : sealE id b.size = 0
  · rw [sealS, hsz, if_pos h, decide_eq_true h]
    obtain ⟨h1, h2, h3⟩ := sealE_zero.1 h
    have := refSeal_ok id.toNat k b w (by omega) h1
    rw [show ((id.toNat : Nat) : Int) = id by omega] at this
    exact this
  · rw [sealS, hsz, if_neg h, decide_eq_false h]
    exact refSeal_no id k b w hi hm h

/-- What the document's Open answers. -/
def rOpnB (id : Int) (s : List UInt8) : Bool := decide ((opn id s).2.2 = 0)

theorem opn_len {id : Int} {s : List UInt8} (h : s.length ≠ 256) : opn id s = (0, [], 3) := by
  rcases opn_cases id s with ⟨k, b, h1, rfl, _⟩ | ⟨_, h3⟩
  · exact absurd (pageL_length _ _ _ (sealE_zero.1 h1).1) h
  · exact h3
theorem opn_long {id : Int} {s : List UInt8} (h : 240 < opN s) : opn id s = (0, [], 3) := by
  rcases opn_cases id s with ⟨k, b, h1, rfl, _⟩ | ⟨_, h3⟩
  · have := (sealE_zero.1 h1).1
    rw [opN_page _ _ _ this] at h
    omega
  · exact h3

theorem extract_list (s : ByteArray) (a c : Nat) (_ : c ≤ s.size) : (s.extract a c).data.toList = (s.data.toList.drop a).take (c - a) := by
  rw [Lib.extract_data]

set_option maxRecDepth 100000 in
set_option maxHeartbeats 2000000 in
theorem refOpen_any (id : Int) (s : ByteArray) (w : World) (hi : id ≤ 9223372036854775807) (hm : s.size ≤ maxLen) :
    Calls Tryd.prog 36 #[.int .i64 id, .string s] w fun e w' => e = .returned (.tuple #[.int .u8 ((opn id s.data.toList).1.toNat : Int), .string ⟨(opn id s.data.toList).2.1.toArray⟩, .bool (rOpnB id s.data.toList)]) ∧ Below w.heap.size w w' := by
  have hmm := hm
  unfold maxLen at hmm
  have hsz : s.data.toList.length = s.size := by simp
  unfold rOpnB
  by_cases hz : s.size = 256
  · have C1 : Hid _ := refInt (s.extract 10 12) w (by simp; omega)
    rw [extract_list s 10 12 (by omega)] at C1
    have EN : Hid (opN s.data.toList = beNat ((s.data.toList.drop 10).take (12 - 10))) := rfl
    rw [← EN.out] at C1
    by_cases hl : 240 < opN s.data.toList
    · rw [opn_long hl]
      generalize opN s.data.toList = N at *
      go_enter Tryd.func36, Tryd.ntmps36
      go_wp2_with fail
      refine Calls.mono C1.out ?_
      rintro e w1 ⟨rfl, rfl⟩
      go_wp2
      go_ret3
      exact ⟨rfl, Below.refl _ _⟩
    · have hk : s[8]'(by omega) = opK s.data.toList := by
        unfold opK
        rw [List.getD_eq_getElem?_getD, List.getElem?_eq_getElem (by simp; omega)]
        rfl
      have hb : s.extract 16 (16 + opN s.data.toList) = ⟨(opB s.data.toList).toArray⟩ := by
        apply ba_ext
        rw [extract_list s 16 _ (by omega), Nat.add_sub_cancel_left]
        rfl
      have hbz : (opB s.data.toList).length ≤ 240 := by unfold opB; rw [List.length_take]; omega
      have EO : Hid (opn id s.data.toList = _) := opn.eq_1 id s.data.toList
      have C2 : Hid (∀ w1, Calls Tryd.prog 38 #[.int .i64 id, .int .u8 ((opK s.data.toList).toNat : Int), .string ⟨(opB s.data.toList).toArray⟩] w1 fun e w' => e = .returned (.tuple #[.string ⟨(sealS id (opK s.data.toList) (opB s.data.toList)).toArray⟩, .bool (decide (sealE id (opB s.data.toList).length = 0))]) ∧ Below w1.heap.size w1 w') := fun w1 => by
        have := refSeal_any id (opK s.data.toList) ⟨(opB s.data.toList).toArray⟩ w1 hi (by rw [ba_size]; unfold maxLen; omega)
        rw [ba_size] at this
        exact this
      generalize hO : opn id s.data.toList = O at *
      generalize opN s.data.toList = N at *
      generalize opK s.data.toList = K at *
      generalize opB s.data.toList = Q at *
      have hB : ((⟨(sealS id K Q).toArray⟩ : ByteArray) = s) ↔ sealS id K Q = s.data.toList := ⟨fun e => by rw [← e], fun e => by rw [e]⟩
      by_cases h1 : sealE id Q.length = 0
      · have hse : sealS id K Q = pageL id.toNat K Q := by rw [sealS, if_pos h1]
        by_cases h2 : sealS id K Q = s.data.toList
        · have EO2 : Hid (O = (K, Q, 0)) := by
            show _ = _
            rw [EO.out, if_pos ⟨h1, by rw [← h2, hse]⟩]
          rw [EO2.out]
          have hs2 := hB.2 h2
          have C3 : Hid (∀ w1, Calls Tryd.prog 38 #[.int .i64 id, .int .u8 (K.toNat : Int), .string ⟨Q.toArray⟩] w1 fun e w' => e = .returned (.tuple #[.string s, .bool true]) ∧ Below w1.heap.size w1 w') := fun w1 => by
            have := C2.out w1
            rw [hs2, decide_eq_true h1] at this
            exact this
          clear C2 EO hse h1 h2 hs2 hB hO EO2
          go_enter Tryd.func36, Tryd.ntmps36
          go_wp2_with fail
          refine Calls.mono C1.out ?_
          rintro e w1 ⟨rfl, rfl⟩
          have D : Hid _ := C3.out w
          clear C1 C3
          go_wp2_with fail
          refine Calls.mono D.out ?_
          rintro e w2 ⟨rfl, b2⟩
          have B2 : Hid (Below w.heap.size w w2) := b2
          clear b2 D
          go_wp2
          go_ret3
          exact ⟨rfl, B2.out⟩
        · have EO2 : Hid (O = (0, [], 3)) := by
            show _ = _
            rw [EO.out, if_neg (fun c => h2 (by rw [hse, ← c.2]))]
          rw [EO2.out]
          have hne := str_ne (fun e => h2 (hB.1 e))
          have C3 : Hid (∀ w1, Calls Tryd.prog 38 #[.int .i64 id, .int .u8 (K.toNat : Int), .string ⟨Q.toArray⟩] w1 fun e w' => e = .returned (.tuple #[.string ⟨(sealS id K Q).toArray⟩, .bool true]) ∧ Below w1.heap.size w1 w') := fun w1 => by
            have := C2.out w1
            rw [decide_eq_true h1] at this
            exact this
          clear C2 EO hse h1 h2 hB hO EO2
          generalize (⟨(sealS id K Q).toArray⟩ : ByteArray) = A at *
          go_enter Tryd.func36, Tryd.ntmps36
          go_wp2_with fail
          refine Calls.mono C1.out ?_
          rintro e w1 ⟨rfl, rfl⟩
          have D : Hid _ := C3.out w
          clear C1 C3
          go_wp2_with fail
          refine Calls.mono D.out ?_
          rintro e w2 ⟨rfl, b2⟩
          have B2 : Hid (Below w.heap.size w w2) := b2
          clear b2 D
          go_wp2
          go_ret3
          exact ⟨rfl, B2.out⟩
      · have EO2 : Hid (O = (0, [], 3)) := by
          show _ = _
          rw [EO.out, if_neg (fun c => h1 c.1)]
        rw [EO2.out]
        have C3 : Hid (∀ w1, Calls Tryd.prog 38 #[.int .i64 id, .int .u8 (K.toNat : Int), .string ⟨Q.toArray⟩] w1 fun e w' => e = .returned (.tuple #[.string ⟨(sealS id K Q).toArray⟩, .bool false]) ∧ Below w1.heap.size w1 w') := fun w1 => by
          have := C2.out w1
          rw [decide_eq_false h1] at this
          exact this
        clear C2 EO h1 hB hO EO2
        generalize (⟨(sealS id K Q).toArray⟩ : ByteArray) = A at *
        go_enter Tryd.func36, Tryd.ntmps36
        go_wp2_with fail
        refine Calls.mono C1.out ?_
        rintro e w1 ⟨rfl, rfl⟩
        have D : Hid _ := C3.out w
        clear C1 C3
        go_wp2_with fail
        refine Calls.mono D.out ?_
        rintro e w2 ⟨rfl, b2⟩
        have B2 : Hid (Below w.heap.size w w2) := b2
        clear b2 D
        go_wp2
        go_ret3
        exact ⟨rfl, B2.out⟩
  · rw [opn_len (by omega)]
    have hne : ((s.size : Int) != 256) = true := by rw [bne_iff_ne]; omega
    clear hz
    go_enter Tryd.func36, Tryd.ntmps36
    go_wp2
    go_ret3
    exact ⟨rfl, Below.refl _ _⟩

end Go.Proofs.YtkbakmgjplhjiaaDoor

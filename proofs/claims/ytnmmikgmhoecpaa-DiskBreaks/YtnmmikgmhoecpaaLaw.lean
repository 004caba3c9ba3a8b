/-
  The statements' own small functions: page, light, and what they read of a list of acts.
-/
import Derived.Test.YtnmmikgmhoecpaaApi
namespace Go.Proofs.Ytnmmikgmhoecpaa
open Go.RowKit
set_option linter.unusedVariables false

def pageS (b : Nat) : ByteArray := ⟨Array.replicate (if b % 16 = 15 then 255 else 256) (UInt8.ofNat b)⟩
def repS (n b : Nat) : ByteArray := ⟨Array.replicate n (UInt8.ofNat b)⟩
theorem repS_size (n b : Nat) : (repS n b).size = n := by simp [repS, ByteArray.size]
theorem repS_append (n m b : Nat) : repS n b ++ repS m b = repS (n + m) b := by
  apply ByteArray.ext
  rw [ByteArray.data_append]
  simp [repS]
theorem pageS_size (b : Nat) : (pageS b).size = if b % 16 = 15 then 255 else 256 := by simp [pageS, ByteArray.size]
theorem pageS_le (b : Nat) : (pageS b).size ≤ maxLen := by rw [pageS_size]; unfold maxLen; split <;> omega

theorem conv_byte (w : World) (b : Nat) (hb : b < 256) :
    Sem.run Try.prog (convert 67 9 (.slice (some ⟨w.heap.size, 0, none⟩) 1 1)) (w.alloc (.cells #[.int .u8 b] 5)) = .ok (.string (repS 1 b)) (w.alloc (.cells #[.int .u8 b] 5)) := by
  have h := run_convert_bytes_back (P := Try.prog) (w.alloc (.cells #[.int .u8 b] 5)) 67 9 5 ⟨w.heap.size, 0, none⟩ 1 [UInt8.ofNat b] Try.underlying67 Try.underlying5 Try.underlying9 (fun j hj => by
    obtain rfl : j = 0 := by simpa using hj
    have e : (⟨w.heap.size, 0, none⟩ : Addr).add 0 = ⟨w.heap.size, 0, none⟩ := by simp [Addr.add]
    rw [e, World.cell?_alloc_at #[.int .u8 b] 5 _ 0 rfl]
    simp
    omega)
  simpa [repS] using h

set_option maxHeartbeats 1000000 in
set_option maxRecDepth 100000 in
theorem page_c (b : Nat) (hb : b < 256) (w : World) : Calls Try.prog 16 #[.int .u8 b] w fun e w' => e = .returned (.string (pageS b)) ∧ Below w.heap.size w w' := by
  have hcv := conv_byte w b hb
  obtain ⟨w1, e1⟩ : ∃ w1, w1 = w.alloc (.cells #[.int .u8 b] 5) := ⟨_, rfl⟩
  have B1 : Hid (Below w.heap.size w w1) := by show Below _ _ _; rw [e1]; exact (Below.refl _ _).alloc (Nat.le_refl _) _
  have hr1 : (repS 1 b).size = 1 := repS_size 1 b
  obtain ⟨t1, ht1⟩ : ∃ t1, t1 = repS 1 b := ⟨_, rfl⟩
  rw [← ht1] at hcv hr1
  have HR : Hid (t1 = repS (2 ^ 0) b) := ht1
  clear ht1
  go_enter Try.func16, Try.ntmps16
  go_wp2
  rw [← e1]
  clear e1 hcv
  go_loopg [3] 8 (fun gk s3 wr => ∃ (e : Nat) (t : ByteArray), s3 = .string t ∧ t.size = 2 ^ e ∧ e ≤ 8 ∧ 8 - e ≤ gk ∧ Hid (t = repS (2 ^ e) b) ∧ wr = w1)
  case atStart => exact ⟨0, t1, rfl, hr1, by omega, by omega, HR, rfl⟩
  case round =>
    obtain ⟨e, t, rfl, hsz, he, hge, HT, rfl⟩ := hrel
    by_cases h8 : e < 8
    · have hp : 2 ^ e ≤ 2 ^ 7 := Nat.pow_le_pow_right (by decide) (by omega)
      have hlt : (t.size : Int) < 256 := by omega
      have HS : Hid (t.size = 2 ^ e) := hsz
      clear hsz
      go_wp2
      go_roundg (8 - (e + 1))
      case measure => omega
      case rel =>
        refine ⟨e + 1, t ++ t, rfl, ?_, by omega, Nat.le_refl _, ?_, rfl⟩
        · rw [ByteArray.size_append, HS.out, Nat.pow_succ]; omega
        · show _ = _
          rw [HT.out, repS_append, Nat.pow_succ]; congr 1; omega
    · obtain rfl : e = 8 := by omega
      have hlt : ¬ (t.size : Int) < 256 := by omega
      have hs256 : t.size = 256 := by omega
      clear hsz
      by_cases h15 : b % 16 = 15
      · have hm : ((b : Int) % 16) = 15 := by omega
        have hm2 : Int.tmod (b : Int) 16 = 15 := by rw [Int.tmod_eq_emod_of_nonneg (by omega)]; exact hm
        have hx : Hid (t.extract 1 256 = pageS b) := by
          show _ = _
          rw [HT.out]; unfold pageS repS; rw [if_pos h15]
          apply ByteArray.ext
          simp
        go_wp2
        go_ret
        exact ⟨ret_str (by rw [← hx.out]), B1.out⟩
      · have hm : ¬ ((b : Int) % 16) = 15 := by omega
        have hm2 : ¬ Int.tmod (b : Int) 16 = 15 := by rw [Int.tmod_eq_emod_of_nonneg (by omega)]; exact hm
        have hx : Hid (t = pageS b) := by
          show _ = _
          rw [HT.out]; unfold pageS repS; rw [if_neg h15]
        have hm3 : (Int.tmod (b : Int) 16 == 15) = false := beq_eq_false_iff_ne.2 hm2
        go_wp2
        go_ret
        exact ⟨ret_str hx.out, B1.out⟩

/-- One act. -/
structure A1 where
  k : Int
  i : Int
  b : Nat
  kv : Value
  keep : List Int
  torn : Int
  cut : Int
def a0 : A1 := ⟨0, 0, 0, .slice none 0 0, [], 0, 0⟩

/-- A slice of acts that can be read. -/
structure ActRow (w : World) (v : Value) (l : List A1) : Prop where
  row : ∃ ao cap, v = .slice ao l.length cap ∧ (l ≠ [] → ∃ r o, ao = some ⟨r, o, none⟩ ∧ r < w.heap.size ∧ ∀ j, j < l.length →
    w.cell? ⟨r, o + j * 6, none⟩ = some (.int .i64 (l.getD j a0).k) ∧ w.cell? ⟨r, o + j * 6 + 1, none⟩ = some (.int .i64 (l.getD j a0).i) ∧ w.cell? ⟨r, o + j * 6 + 2, none⟩ = some (.int .u8 (l.getD j a0).b) ∧
    w.cell? ⟨r, o + j * 6 + 3, none⟩ = some (l.getD j a0).kv ∧ w.cell? ⟨r, o + j * 6 + 4, none⟩ = some (.int .i64 (l.getD j a0).torn) ∧ w.cell? ⟨r, o + j * 6 + 5, none⟩ = some (.int .i64 (l.getD j a0).cut))
  ok : ∀ a ∈ l, IntRow w a.kv a.keep ∧ a.b < 256 ∧ a.i ≤ 9223372036854775807

theorem ActRow.below {w w' : World} {v : Value} {l : List A1} {B : Nat} (h : ActRow w v l) (hb : Below B w w') (hB : w.heap.size ≤ B) : ActRow w' v l := by
  obtain ⟨⟨ao, cap, e, h1⟩, h2⟩ := h
  refine ⟨⟨ao, cap, e, fun hne => ?_⟩, fun a ha => ⟨(h2 a ha).1.below hb hB, (h2 a ha).2⟩⟩
  obtain ⟨r, o, e2, hr, hc⟩ := h1 hne
  have k : ∀ j, w'.cell? ⟨r, j, none⟩ = w.cell? ⟨r, j, none⟩ := fun j => World.cell?_of_block (a := ⟨r, j, none⟩) (hb.block r (by omega))
  refine ⟨r, o, e2, Nat.lt_of_lt_of_le hr hb.size, fun j hj => ?_⟩
  rw [k, k, k, k, k, k]
  exact hc j hj

/-- What is read of one act, in a later world. -/
theorem ActRow.at {w wr : World} {ao : Option Addr} {n cap : Nat} {l : List A1} {B : Nat} (h : ActRow w (.slice ao n cap) l) (hb : Below B w wr) (hB : w.heap.size ≤ B) {j : Nat} (hj : j < l.length) :
    ∃ r o, ao = some ⟨r, o, none⟩ ∧ r < wr.heap.size ∧ wr.cell? ⟨r, o + j * 6, none⟩ = some (.int .i64 (l.getD j a0).k) ∧ wr.cell? ⟨r, o + j * 6 + 1, none⟩ = some (.int .i64 (l.getD j a0).i) ∧ wr.cell? ⟨r, o + j * 6 + 2, none⟩ = some (.int .u8 (l.getD j a0).b) ∧
    wr.cell? ⟨r, o + j * 6 + 3, none⟩ = some (l.getD j a0).kv ∧ wr.cell? ⟨r, o + j * 6 + 4, none⟩ = some (.int .i64 (l.getD j a0).torn) ∧ wr.cell? ⟨r, o + j * 6 + 5, none⟩ = some (.int .i64 (l.getD j a0).cut) ∧
    IntRow wr (l.getD j a0).kv (l.getD j a0).keep ∧ (l.getD j a0).b < 256 ∧ (l.getD j a0).i ≤ 9223372036854775807 := by
  obtain ⟨⟨ao', cap', e, h1⟩, h2⟩ := h.below hb hB
  cases e
  obtain ⟨r, o, e2, hr, hc⟩ := h1 (by intro e; rw [e] at hj; simp at hj)
  obtain ⟨x0, x1, x2, x3, x4, x5⟩ := hc j hj
  have hm : l.getD j a0 ∈ l := by rw [List.getD_eq_getElem?_getD, List.getElem?_eq_getElem hj]; exact List.getElem_mem hj
  exact ⟨r, o, e2, hr, x0, x1, x2, x3, x4, x5, h2 _ hm⟩

/-- The same of a slice whose place is known. -/
theorem ActRow.cells {w wr : World} {r o n cap : Nat} {l : List A1} {B : Nat} (h : ActRow w (.slice (some ⟨r, o, none⟩) n cap) l) (hb : Below B w wr) (hB : w.heap.size ≤ B) {j : Nat} (hj : j < l.length) {A : A1} (hA : l.getD j a0 = A) :
    wr.cell? ⟨r, o + j * 6, none⟩ = some (.int .i64 A.k) ∧ wr.cell? ⟨r, o + j * 6 + 1, none⟩ = some (.int .i64 A.i) ∧ wr.cell? ⟨r, o + j * 6 + 2, none⟩ = some (.int .u8 A.b) ∧ r < wr.heap.size := by
  obtain ⟨r', o', e, hr, x0, x1, x2, _⟩ := h.at hb hB hj
  cases e
  rw [hA] at x0 x1 x2
  exact ⟨x0, x1, x2, hr⟩

/-- Few enough. -/
def lightB (n : Int) (l : List A1) : Bool := decide (n ≤ 40 ∧ l.length ≤ 60) && l.all fun a => decide (a.keep.length ≤ 60)

set_option maxHeartbeats 1000000 in
set_option maxRecDepth 100000 in
theorem light_c (n : Int) (v : Value) (l : List A1) (w : World) (h : ActRow w v l) : Calls Try.prog 10 #[.int .i64 n, v] w fun e w' => e = .returned (.bool (lightB n l)) ∧ w = w' := by
  obtain ⟨ao, cap, rfl, h1⟩ := h.row
  have HA : Hid (ActRow w (.slice ao l.length cap) l) := h
  clear h h1
  by_cases h40 : 40 < n
  · have HL : Hid (lightB n l = false) := by show _ = _; unfold lightB; simp; omega
    go_enter Try.func10, Try.ntmps10
    go_wp2
    go_ret
    exact ⟨ret_bool HL.out.symm, rfl⟩
  · by_cases h60 : 60 < l.length
    · have HL : Hid (lightB n l = false) := by show _ = _; unfold lightB; simp; omega
      have h60z : (60 : Int) < (l.length : Int) := by omega
      go_enter Try.func10, Try.ntmps10
      go_wp2
      go_ret
      exact ⟨ret_bool HL.out.symm, rfl⟩
    · have h60z : ¬ (60 : Int) < (l.length : Int) := by omega
      have h60n : l.length ≤ 60 := by omega
      have h40n : n ≤ 40 := by omega
      go_enter Try.func10, Try.ntmps10
      go_wp2
      go_loopg [5] l.length (fun gk s5 wr => ∃ t : Nat, s5 = .int .i64 t ∧ t ≤ l.length ∧ l.length - t ≤ gk ∧ Hid (∀ j, j < t → (l.getD j a0).keep.length ≤ 60) ∧ wr = w)
      case atStart => exact ⟨0, rfl, Nat.zero_le _, Nat.le_refl _, fun j hj => absurd hj (by omega), rfl⟩
      case round =>
        obtain ⟨t, rfl, ht, hgt, HJ, rfl⟩ := hrel
        by_cases htl : t < l.length
        · have htz : (t : Int) < (l.length : Int) := by omega
          obtain ⟨r, o, rfl, hr, x0, x1, x2, x3, x4, x5, ⟨ak, ck, ek, _⟩, _, _⟩ := HA.out.at (Below.refl _ _) (Nat.le_refl _) htl
          rw [ek] at x3
          have hm : l.getD t a0 ∈ l := by rw [List.getD_eq_getElem?_getD, List.getElem?_eq_getElem htl]; exact List.getElem_mem htl
          clear x0 x1 x2 x4 x5 ek
          by_cases hk : 60 < (l.getD t a0).keep.length
          · have hkz : (60 : Int) < ((l.getD t a0).keep.length : Int) := by omega
            have HL : Hid (lightB n l = false) := by
              show _ = _
              unfold lightB
              rw [Bool.and_eq_false_iff]
              right
              rw [List.all_eq_false]
              exact ⟨_, hm, by simpa using hk⟩
            clear hm
            generalize (l.getD t a0).keep.length = kn at *
            go_wp2
            go_ret
            exact ⟨ret_bool HL.out.symm, rfl⟩
          · have hkz : ¬ (60 : Int) < ((l.getD t a0).keep.length : Int) := by omega
            have HJ2 : Hid (∀ j, j < t + 1 → (l.getD j a0).keep.length ≤ 60) := fun j hj => by
              rcases Nat.lt_or_eq_of_le (Nat.le_of_lt_succ hj) with h | h
              · exact HJ.out j h
              · rw [h]; omega
            clear hm
            generalize (l.getD t a0).keep.length = kn at x3 hkz
            go_wp2
            go_roundg (l.length - (t + 1))
            case measure => omega
            case rel => exact ⟨t + 1, by go_num, by omega, Nat.le_refl _, HJ2, rfl⟩
        · have htz : ¬ (t : Int) < (l.length : Int) := by omega
          obtain rfl : t = l.length := by omega
          have HL : Hid (lightB n l = true) := by
            show _ = _
            unfold lightB
            rw [Bool.and_eq_true, decide_eq_true_iff, List.all_eq_true]
            refine ⟨⟨h40n, h60n⟩, fun a ha => ?_⟩
            obtain ⟨j, hj, e⟩ := List.getElem_of_mem ha
            have := HJ.out j hj
            rw [List.getD_eq_getElem?_getD, List.getElem?_eq_getElem hj, Option.getD_some, e] at this
            simpa using this
          go_wp2
          go_ret
          exact ⟨ret_bool HL.out.symm, rfl⟩

end Go.Proofs.Ytnmmikgmhoecpaa

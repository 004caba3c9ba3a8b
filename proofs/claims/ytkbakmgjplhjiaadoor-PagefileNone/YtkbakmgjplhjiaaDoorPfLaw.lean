/-
  The statements' own small functions: full, works; and what they read of a list of acts.
-/
import Derived.Test.YtkbakmgjplhjiaaDoorPf
namespace Go.Proofs.YtkbakmgjplhjiaaDoor
open Go.RowKit
set_option linter.unusedVariables false

/-- A text with n noughts behind it. -/
def zs (s : ByteArray) (n : Nat) : ByteArray := ⟨(s.data.toList ++ List.replicate n 0).toArray⟩
theorem zs_size (s : ByteArray) (n : Nat) : (zs s n).size = s.size + n := by
  unfold zs; rw [ba_size, List.length_append, List.length_replicate]; simp
theorem zs_zero (s : ByteArray) : zs s 0 = s := by
  unfold zs
  apply ByteArray.ext
  simp
theorem zs_succ (s : ByteArray) (n : Nat) : zs s n ++ ⟨#[0]⟩ = zs s (n + 1) := by
  apply ByteArray.ext
  rw [ByteArray.data_append]
  unfold zs
  simp [List.replicate_succ']
theorem zs_full (s : ByteArray) (n : Nat) (h : 256 ≤ s.size + n) (hn : n = 0 ∨ s.size + n = 256) : (zs s n).extract 0 256 = fullS s := by
  have : n = 256 - s.size := by omega
  subst this
  rfl

set_option maxHeartbeats 1000000 in
set_option maxRecDepth 100000 in
theorem full_c (s : ByteArray) (hs : s.size ≤ maxLen) (w : World) : Calls Tryd.prog 20 #[.string s] w fun e w' => e = .returned (.string (fullS s)) ∧ w = w' := by
  unfold maxLen at hs
  have H0 : Hid (s = zs s 0) := (zs_zero s).symm
  have ZF : Hid (∀ n, 256 ≤ s.size + n → n = 0 ∨ s.size + n = 256 → (zs s n).extract 0 256 = fullS s) := zs_full s
  generalize fullS s = R at *
  go_enter Tryd.func20, Tryd.ntmps20
  go_wp2
  go_loopg [0] 256 (fun gk s0 wr => ∃ (t : ByteArray) (n : Nat), s0 = .string t ∧ t.size = s.size + n ∧ (n = 0 ∨ s.size + n ≤ 256) ∧ 256 - t.size ≤ gk ∧ Hid (t = zs s n) ∧ wr = w)
  case atStart => exact ⟨s, 0, rfl, rfl, .inl rfl, by omega, H0, rfl⟩
  case round =>
    obtain ⟨t, n, rfl, hz, hn, hgk, HT, rfl⟩ := hrel
    by_cases hlt0 : t.size < 256
    · have hlt : (t.size : Int) < 256 := by omega
      have HZ : Hid (t.size = s.size + n) := hz
      clear hz
      go_wp2
      go_roundg (256 - (t.size + 1))
      case measure => omega
      case rel =>
        have e := HZ.out
        refine ⟨t ++ ⟨#[0]⟩, n + 1, rfl, ?_, .inr (by omega), ?_, ?_, rfl⟩
        · rw [ByteArray.size_append, e]; rfl
        · rw [ByteArray.size_append, show (⟨#[0]⟩ : ByteArray).size = 1 from rfl]; exact Nat.le_refl _
        · show _ = _
          rw [HT.out, zs_succ]
    · have hlt : ¬ (t.size : Int) < 256 := by omega
      have E : Hid (t.extract 0 256 = R) := by
        show _ = _
        rw [HT.out]
        exact ZF.out n (by omega) (by omega)
      have hle : 256 ≤ t.size := by omega
      have htm : t.size ≤ 9223372036854775807 := by omega
      clear hz hn HT ZF H0 hlt0
      go_wp2
      go_ret
      exact ⟨by rw [← E.out]; rfl, rfl⟩

def ab : ByteArray := ⟨#[97, 98]⟩
def ff0 : Dk := Dk.new 4
def ff1 : Int × Dk := ff0.wr 1 1 ab
def ff2 : Int × Dk := ff1.2.wr 3 1 ab
def ff3 : (ByteArray × Int) × Dk := ff2.2.rd 3 1
def ff4 : (ByteArray × Int) × Dk := ff3.2.rd 3 2
def ff5 : (ByteArray × Int) × Dk := ff4.2.rd 2 1
theorem ff_1 : ff1.1 = 40 ∧ ff2.1 = 0 ∧ ff0.pend.length = 0 ∧ ff1.2.pend.length = 0 ∧ ff5.2.room = 4 := by decide +kernel
theorem ff_3 : ff3.1.1 = ab ∧ ff3.1.2 = 0 ∧ ff4.1.2 = 3 ∧ ff5.1.2 = 3 := by decide +kernel

set_option maxHeartbeats 2000000 in
set_option maxRecDepth 100000 in
theorem works_any (w : World) (T : Tab w) : Calls Tryd.prog 7 #[] w fun e w' => e = .returned (.bool true) ∧ Below w.heap.size w w' := by
  have TS : Hid (Tabs w.heap.size w) := tabs_of T
  have C1 : Hid _ := new_s 4 (Sep.nil (B := w.heap.size) (w0 := w) (w := w) (Nat.le_refl _) (Below.refl _ _))
  obtain ⟨p1, p2, p3, p4, p5⟩ := ff_1
  obtain ⟨q1, q2, q3, q4⟩ := ff_3
  have K1 : Hid (∀ u f b, Sep w.heap.size w u [File f b (Dk.new 4)] → Calls Tryd.prog 13 #[ptr f, .int .i64 1, .int .u8 1, .string ⟨#[97, 98]⟩] u fun e w' => e = .returned (.int .i64 40) ∧ Sep w.heap.size w w' [File f b ff1.2]) := fun u f b hu => by
    have := write_f TS.out hu 1 1 ab (by decide) (by decide)
    rw [show (Dk.new 4).wr 1 1 ab = ff1 from rfl, p1] at this
    exact this
  have K2 : Hid (∀ u f b, Sep w.heap.size w u [File f b ff1.2] → Calls Tryd.prog 13 #[ptr f, .int .i64 3, .int .u8 1, .string ⟨#[97, 98]⟩] u fun e w' => e = .returned (.int .i64 0) ∧ Sep w.heap.size w w' [File f b ff2.2]) := fun u f b hu => by
    have := write_f TS.out hu 3 1 ab (by decide) (by rw [p4]; decide)
    rw [show ff1.2.wr 3 1 ab = ff2 from rfl, p2] at this
    exact this
  have K3 : Hid (∀ u f b, Sep w.heap.size w u [File f b ff2.2] → Calls Tryd.prog 11 #[ptr f, .int .i64 3, .int .u8 1] u fun e w' => e = .returned (.tuple #[.string ⟨#[97, 98]⟩, .int .i64 0]) ∧ Sep w.heap.size w w' [File f b ff3.2]) := fun u f b hu => by
    have := read_f TS.out hu 3 1
    rw [show ff2.2.rd 3 1 = ff3 from rfl, q1, q2] at this
    exact this
  have K4 : Hid (∀ u f b, Sep w.heap.size w u [File f b ff3.2] → Calls Tryd.prog 11 #[ptr f, .int .i64 3, .int .u8 2] u fun e w' => e = .returned (.tuple #[.string ff4.1.1, .int .i64 3]) ∧ Sep w.heap.size w w' [File f b ff4.2]) := fun u f b hu => by
    have := read_f TS.out hu 3 2
    rw [show ff3.2.rd 3 2 = ff4 from rfl, q3] at this
    exact this
  have K5 : Hid (∀ u f b, Sep w.heap.size w u [File f b ff4.2] → Calls Tryd.prog 11 #[ptr f, .int .i64 2, .int .u8 1] u fun e w' => e = .returned (.tuple #[.string ff5.1.1, .int .i64 3]) ∧ Sep w.heap.size w w' [File f b ff5.2]) := fun u f b hu => by
    have := read_f TS.out hu 2 1
    rw [show ff4.2.rd 2 1 = ff5 from rfl, q4] at this
    exact this
  have K6 : Hid (∀ u f b, Sep w.heap.size w u [File f b ff5.2] → Calls Tryd.prog 28 #[ptr f] u fun e w' => e = .returned (.int .i64 4) ∧ u = w') := fun u f b hu => by
    have := room_f hu
    rw [p5] at this
    exact this
  generalize ff1.2 = d1 at *
  generalize ff2.2 = d2 at *
  generalize ff3.2 = d3 at *
  generalize ff4.2 = d4 at *
  generalize ff4.1.1 = x4 at *
  generalize ff5.2 = d5 at *
  generalize ff5.1.1 = x5 at *
  clear p1 p2 p3 p4 p5 q1 q2 q3 q4 T TS
  go_enter Tryd.func7, Tryd.ntmps7
  go_wp2_with fail
  refine Calls.mono C1.out ?_
  rintro e w1 ⟨b, rfl, s1⟩
  have C2 : Hid _ := new_f s1
  clear s1 C1
  go_wp2_with fail
  refine Calls.mono C2.out ?_
  rintro e w2 ⟨f, rfl, s2⟩
  have C3 : Hid _ := K1.out w2 f b s2
  clear s2 C2 K1
  go_wp2_with fail
  refine Calls.mono C3.out ?_
  rintro e w3 ⟨rfl, s3⟩
  have C4 : Hid _ := K2.out w3 f b s3
  clear s3 C3 K2
  go_wp2_with fail
  refine Calls.mono C4.out ?_
  rintro e w4 ⟨rfl, s4⟩
  have C5 : Hid _ := K3.out w4 f b s4
  clear s4 C4 K3
  go_wp2_with fail
  refine Calls.mono C5.out ?_
  rintro e w5 ⟨rfl, s5⟩
  have C6 : Hid _ := K4.out w5 f b s5
  clear s5 C5 K4
  go_wp2_with fail
  refine Calls.mono C6.out ?_
  rintro e w6 ⟨rfl, s6⟩
  have C7 : Hid _ := K5.out w6 f b s6
  clear s6 C6 K5
  go_wp2_with fail
  refine Calls.mono C7.out ?_
  rintro e w7 ⟨rfl, s7⟩
  have S7 : Hid (Sep w.heap.size w w7 [File f b d5]) := s7
  have C8 : Hid _ := K6.out w7 f b s7
  clear s7 C7 K6
  go_wp2_with fail
  refine Calls.mono C8.out ?_
  rintro e w8 ⟨rfl, rfl⟩
  clear C8
  go_wp2
  go_ret
  exact ⟨rfl, S7.out.bel⟩

/-- One act. -/
structure A1 where
  k : Int
  i : Int
  kd : UInt8
  s : ByteArray
def a0 : A1 := ⟨0, 0, 0, ByteArray.empty⟩

/-- A slice of acts that can be read. -/
structure ActRow (w : World) (v : Value) (l : List A1) : Prop where
  row : ∃ ao cap, v = .slice ao l.length cap ∧ (l ≠ [] → ∃ r o, ao = some ⟨r, o, none⟩ ∧ r < w.heap.size ∧ ∀ j, j < l.length →
    w.cell? ⟨r, o + j * 4, none⟩ = some (.int .i64 (l.getD j a0).k) ∧ w.cell? ⟨r, o + j * 4 + 1, none⟩ = some (.int .i64 (l.getD j a0).i) ∧ w.cell? ⟨r, o + j * 4 + 2, none⟩ = some (.int .u8 ((l.getD j a0).kd.toNat : Int)) ∧
    w.cell? ⟨r, o + j * 4 + 3, none⟩ = some (.string (l.getD j a0).s))
  ok : ∀ a ∈ l, a.s.size ≤ maxLen ∧ a.i ≤ 9223372036854775807

theorem ActRow.below {w w' : World} {v : Value} {l : List A1} {B : Nat} (h : ActRow w v l) (hb : Below B w w') (hB : w.heap.size ≤ B) : ActRow w' v l := by
  obtain ⟨⟨ao, cap, e, h1⟩, h2⟩ := h
  refine ⟨⟨ao, cap, e, fun hne => ?_⟩, h2⟩
  obtain ⟨r, o, e2, hr, hc⟩ := h1 hne
  have k : ∀ j, w'.cell? ⟨r, j, none⟩ = w.cell? ⟨r, j, none⟩ := fun j => World.cell?_of_block (a := ⟨r, j, none⟩) (hb.block r (by omega))
  refine ⟨r, o, e2, Nat.lt_of_lt_of_le hr hb.size, fun j hj => ?_⟩
  rw [k, k, k, k]
  exact hc j hj

/-- What is read of one act, in a later world. -/
theorem ActRow.at {w wr : World} {ao : Option Addr} {n cap : Nat} {l : List A1} {B : Nat} (h : ActRow w (.slice ao n cap) l) (hb : Below B w wr) (hB : w.heap.size ≤ B) {j : Nat} (hj : j < l.length) :
    ∃ r o, ao = some ⟨r, o, none⟩ ∧ r < wr.heap.size ∧ wr.cell? ⟨r, o + j * 4, none⟩ = some (.int .i64 (l.getD j a0).k) ∧ wr.cell? ⟨r, o + j * 4 + 1, none⟩ = some (.int .i64 (l.getD j a0).i) ∧ wr.cell? ⟨r, o + j * 4 + 2, none⟩ = some (.int .u8 ((l.getD j a0).kd.toNat : Int)) ∧
    wr.cell? ⟨r, o + j * 4 + 3, none⟩ = some (.string (l.getD j a0).s) ∧ (l.getD j a0).s.size ≤ maxLen ∧ (l.getD j a0).i ≤ 9223372036854775807 := by
  obtain ⟨⟨ao', cap', e, h1⟩, h2⟩ := h.below hb hB
  cases e
  obtain ⟨r, o, e2, hr, hc⟩ := h1 (by intro e; rw [e] at hj; simp at hj)
  obtain ⟨x0, x1, x2, x3⟩ := hc j hj
  have hm : l.getD j a0 ∈ l := by rw [List.getD_eq_getElem?_getD, List.getElem?_eq_getElem hj]; exact List.getElem_mem hj
  exact ⟨r, o, e2, hr, x0, x1, x2, x3, h2 _ hm⟩
/-- The same of a slice whose place is known. -/
theorem ActRow.cells {w wr : World} {r o n cap : Nat} {l : List A1} {B : Nat} (h : ActRow w (.slice (some ⟨r, o, none⟩) n cap) l) (hb : Below B w wr) (hB : w.heap.size ≤ B) {j : Nat} (hj : j < l.length) {A : A1} (hA : l.getD j a0 = A) :
    wr.cell? ⟨r, o + j * 4 + 1, none⟩ = some (.int .i64 A.i) ∧ wr.cell? ⟨r, o + j * 4 + 3, none⟩ = some (.string A.s) ∧ r < wr.heap.size := by
  obtain ⟨r', o', e, hr, x0, x1, x2, x3, _⟩ := h.at hb hB hj
  cases e
  rw [hA] at x1 x3
  exact ⟨x1, x3, hr⟩

end Go.Proofs.YtkbakmgjplhjiaaDoor

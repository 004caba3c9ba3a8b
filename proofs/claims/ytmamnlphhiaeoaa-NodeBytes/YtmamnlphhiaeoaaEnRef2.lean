/-
  The walks of the document's Encode and Decode.
-/
import Derived.Test.YtmamnlphhiaeoaaEnDec
import Derived.Deep.RegionHeld3
namespace Go.Proofs.Ytmamnlphhiaeoaa
open Go.Shelf Go.RowKit Go.Lib Go.Sort

/-- One byte as a text. -/
theorem conv_at {W : World} {q : Nat} {c : UInt8} {n : Int} (hn : n = (c.toNat : Int)) (h : Cl W q #[.int .u8 n] 5) :
    Sem.run Try.prog (convert 72 9 (.slice (some ⟨q, 0, none⟩) 1 1)) W = .ok (.string ⟨#[c]⟩) W := by
  refine run_convert_bytes_back W 72 9 5 _ 1 [c] Try.underlying72 Try.underlying5 Try.underlying9 (fun j hj => ?_)
  obtain rfl : j = 0 := by simpa using hj
  rw [add0, h.cell 0, hn]
  simp

theorem Cl.drew {w : World} {q : Nat} {cs : Array Value} {t : TypeId} (h : Cl w q cs t) : Cl w.drew q cs t := h

theorem ba_app (a b : ByteArray) : a ++ b = ⟨(a.data.toList ++ b.data.toList).toArray⟩ := by
  apply ba_ext
  rw [ByteArray.data_append]
  simp

theorem en_next (S : List UInt8) (x : En) : ((((⟨S.toArray⟩ : ByteArray) ++ ⟨#[UInt8.ofNat x.1.size]⟩) ++ x.1) ++ ⟨#[UInt8.ofNat x.2.size]⟩) ++ x.2 = ⟨(S ++ enE x).toArray⟩ := by
  apply ba_ext
  simp only [ByteArray.data_append, Array.toList_append]
  simp [enE, txL]

set_option maxHeartbeats 4000000 in
set_option maxRecDepth 100000 in
theorem rencode_any (v : Value) (l : List En) (w : World) (h : Row encP 2 w v l) (hl : l.length ≤ 1000) (hr : Rg l) :
    Calls Try.prog 38 #[v] w fun e w' => e = .returned (.string ⟨(enL l).toArray⟩) ∧ Below w.heap.size w w' := by
  have RG : Hid (Rg l) := hr
  obtain ⟨ao, cap, rfl, h1, h2, h3⟩ := h
  have H3 : Aside (l ≠ [] → ∃ b off, ao = some ⟨b, off, none⟩ ∧ b < w.heap.size ∧ CellsK encP 2 w b off l) := h3
  clear h3 hr
  go_enter Try.func38, Try.ntmps38
  go_wp2
  go_loopg [3, 4] l.length (fun kx s3 s4 wr => ∃ (i : Nat) (S : List UInt8), s3 = .string ⟨S.toArray⟩ ∧ s4 = .int .i64 i ∧ i ≤ l.length ∧ l.length - i ≤ kx ∧ S.length ≤ 58 * i ∧ Hid (enL (l.take i) = S) ∧ Hid (Below w.heap.size w wr))
  case atStart => exact ⟨0, [], rfl, rfl, Nat.zero_le _, Nat.le_refl _, by simp, rfl, Below.refl _ _⟩
  case round =>
    obtain ⟨i, S, rfl, rfl, hi, hki, hSl, HS, HB⟩ := hrel
    by_cases hil : i < l.length
    · have hilz : (i : Int) < (l.length : Int) := by omega
      obtain ⟨b, off, rfl, hb, x1, x2⟩ := row_at H3.out i hil HB.out
      have T : Hid _ := enL_snoc hil
      have hm := mayB_iff.1 (RG.out.may _ (bang_mem hil))
      rw [HS.out] at T
      generalize l[i]! = x at *
      obtain ⟨k, v⟩ := x
      dsimp only at x1 x2 hm
      obtain ⟨m1, m2, m3⟩ := hm
      have hb1 := HB.out.size
      have n1 : (k.size : Int) = ((UInt8.ofNat k.size).toNat : Int) := by rw [ofNat_size (by omega)]
      have n2 : (v.size : Int) = ((UInt8.ofNat v.size).toNat : Int) := by rw [ofNat_size (by omega)]
      have u1 : IntKind.u8.wrap (k.size : Int) = (k.size : Int) := by rw [IntKind.wrap_u8]; omega
      have u2 : IntKind.u8.wrap (v.size : Int) = (v.size : Int) := by rw [IntKind.wrap_u8]; omega
      have a1 : Cl (wr.alloc (.cells #[.int .u8 (k.size : Int)] 5)) wr.heap.size #[.int .u8 (k.size : Int)] 5 := Cl.new wr _ _
      have a2 : Cl (wr.alloc (.cells #[.int .u8 (v.size : Int)] 5)) wr.heap.size #[.int .u8 (v.size : Int)] 5 := Cl.new wr _ _
      have a3 := Cl.new (wr.alloc (.cells #[.int .u8 (k.size : Int)] 5)) #[.int .u8 (v.size : Int)] 5
      have a4 := Cl.new (wr.alloc (.cells #[.int .u8 (v.size : Int)] 5)) #[.int .u8 (k.size : Int)] 5
      have z1 : (wr.alloc (.cells #[.int .u8 (k.size : Int)] 5)).heap.size = wr.heap.size + 1 := by simp
      have z2 : (wr.alloc (.cells #[.int .u8 (v.size : Int)] 5)).heap.size = wr.heap.size + 1 := by simp
      rw [z1] at a3
      rw [z2] at a4
      have q1 := conv_at n1 a1.drew
      have q2 := conv_at n2 a2.drew
      have q3 := conv_at n1 (a1.alloc (.cells #[.int .u8 (v.size : Int)] 5)).drew
      have q4 := conv_at n2 (a2.alloc (.cells #[.int .u8 (k.size : Int)] 5)).drew
      have q5 := conv_at n2 a3.drew
      have q6 := conv_at n1 a4.drew
      have N := en_next S (k, v)
      dsimp only at N
      clear a1 a2 a3 a4 n1 n2 z1 z2
      have l1 : (⟨#[UInt8.ofNat k.size]⟩ : ByteArray).size = 1 := rfl
      have l2 : (⟨#[UInt8.ofNat v.size]⟩ : ByteArray).size = 1 := rfl
      have l0 : (⟨S.toArray⟩ : ByteArray).size = S.length := ba_size S
      generalize (⟨#[UInt8.ofNat k.size]⟩ : ByteArray) = c1 at *
      generalize (⟨#[UInt8.ofNat v.size]⟩ : ByteArray) = c2 at *
      generalize (⟨S.toArray⟩ : ByteArray) = s0 at *
      have NN : Hid _ := N
      have HT : Hid (S.length + (k.size + v.size + 2) ≤ 58 * (i + 1)) := by show _ ≤ _; omega
      have w1 : ¬ 9223372036854775807 < s0.size + c1.size := by omega
      have w2 : ¬ 9223372036854775807 < s0.size + c1.size + k.size := by omega
      have w3 : ¬ 9223372036854775807 < s0.size + c1.size + k.size + c2.size := by omega
      have w4 : ¬ 9223372036854775807 < s0.size + c1.size + k.size + c2.size + v.size := by omega
      clear N l0 l1 l2
      obtain ⟨S2, hS2⟩ : ∃ S2, S ++ enE (k, v) = S2 := ⟨_, rfl⟩
      have hl2 : S2.length ≤ 58 * (i + 1) := by
        rw [← hS2, List.length_append, enE_length]; unfold szE; dsimp only; omega
      have T2 : Hid (enL (l.take (i + 1)) = S2) := by show _ = _; rw [← hS2]; exact T.out
      have N2 : Hid (s0 ++ c1 ++ k ++ c2 ++ v = ⟨S2.toArray⟩) := by show _ = _; rw [← hS2]; exact NN.out
      have E1 : Hid (Below w.heap.size w ((wr.alloc (.cells #[.int .u8 (k.size : Int)] 5)).alloc (.cells #[.int .u8 (v.size : Int)] 5)).drew) := ((HB.out.alloc hb1 _).alloc (by simp; omega) _).drew
      have E2 : Hid (Below w.heap.size w ((wr.alloc (.cells #[.int .u8 (v.size : Int)] 5)).alloc (.cells #[.int .u8 (k.size : Int)] 5)).drew) := ((HB.out.alloc hb1 _).alloc (by simp; omega) _).drew
      clear hS2 T NN
      have f1 : (wr.alloc (.cells #[.int .u8 (k.size : Int)] 5)).cell? ⟨b, off + i * 2, none⟩ = some (.string k) := Lib.cell?_alloc_some _ x1
      have f2 : (wr.alloc (.cells #[.int .u8 (k.size : Int)] 5)).cell? ⟨b, off + i * 2 + 1, none⟩ = some (.string v) := Lib.cell?_alloc_some _ x2
      have f3 : (wr.alloc (.cells #[.int .u8 (v.size : Int)] 5)).cell? ⟨b, off + i * 2, none⟩ = some (.string k) := Lib.cell?_alloc_some _ x1
      have f4 : (wr.alloc (.cells #[.int .u8 (v.size : Int)] 5)).cell? ⟨b, off + i * 2 + 1, none⟩ = some (.string v) := Lib.cell?_alloc_some _ x2
      have f5 : ((wr.alloc (.cells #[.int .u8 (k.size : Int)] 5)).alloc (.cells #[.int .u8 (v.size : Int)] 5)).cell? ⟨b, off + i * 2, none⟩ = some (.string k) := Lib.cell?_alloc_some _ f1
      have f6 : ((wr.alloc (.cells #[.int .u8 (k.size : Int)] 5)).alloc (.cells #[.int .u8 (v.size : Int)] 5)).cell? ⟨b, off + i * 2 + 1, none⟩ = some (.string v) := Lib.cell?_alloc_some _ f2
      have f7 : ((wr.alloc (.cells #[.int .u8 (v.size : Int)] 5)).alloc (.cells #[.int .u8 (k.size : Int)] 5)).cell? ⟨b, off + i * 2, none⟩ = some (.string k) := Lib.cell?_alloc_some _ f3
      have f8 : ((wr.alloc (.cells #[.int .u8 (v.size : Int)] 5)).alloc (.cells #[.int .u8 (k.size : Int)] 5)).cell? ⟨b, off + i * 2 + 1, none⟩ = some (.string v) := Lib.cell?_alloc_some _ f4
      go_wp2_with fail
      go_region
      all_goals clear q1 q2 q3 q4 q5 q6 f1 f2 f3 f4 f5 f6 f7 f8 x1 x2 w1 w2 w3 w4 u1 u2
      all_goals go_wp2
      all_goals go_roundg (l.length - (i + 1))
      all_goals first | omega | exact ⟨i + 1, S2, by rw [← N2.out], by go_num, by omega, Nat.le_refl _, hl2, T2, E1⟩ | exact ⟨i + 1, S2, by rw [← N2.out], by go_num, by omega, Nat.le_refl _, hl2, T2, E2⟩
    · have hilz : ¬ (i : Int) < (l.length : Int) := by omega
      obtain rfl : i = l.length := by omega
      rw [List.take_length] at HS
      go_wp2
      go_ret
      exact ⟨by rw [HS.out]; rfl, HB.out⟩

end Go.Proofs.Ytmamnlphhiaeoaa

/-
  The walk of the document's Body.
-/
import Derived.Test.YtmamnlphhiaeoaaNdCode
import Derived.Test.YtmamnlphhiaeoaaNdRt
import Derived.Test.YtmamnlphhiaeoaaEnRef2
import Derived.Test.YtmamnlphhiaeoaaCdRefPut
import Derived.Test.YtmamnlphhiaeoaaOrd
import Derived.Test.YtmamnlphhiaeoaaNdRefJ
import Derived.Deep.LoopGhost
namespace Go.Proofs.Ytmamnlphhiaeoaa
open Go.Shelf Go.RowKit Go.Lib Go.Sort

theorem bd_next (S : List UInt8) (x : Pk) : (((⟨S.toArray⟩ : ByteArray) ++ ⟨#[UInt8.ofNat x.1.size]⟩) ++ x.1) ++ ⟨(b4 x.2).toArray⟩ = ⟨(S ++ (txL x.1 ++ b4 x.2)).toArray⟩ := by
  apply ba_ext
  simp only [ByteArray.data_append, Array.toList_append]
  simp [txL]
theorem bdP_snoc {l : List Pk} {i : Nat} (h : i < l.length) : bdP (l.take (i + 1)) = bdP (l.take i) ++ (txL l[i]!.1 ++ b4 l[i]!.2) := by
  rw [take_next h, bdP_app]
  simp [bdP]
theorem rbody_leaf (n : Nd) (ve vk vs : Value) (w : World) (h : NdR w ve vk vs n) (hs : Sm n) (hr : rtN n = true) (hl : n.leaf = true) :
    Calls Try.prog 17 #[.agg #[.bool n.leaf, ve, vk, vs]] w fun e w' => e = .returned (.string ⟨(bdN n).toArray⟩) ∧ Below w.heap.size w w' := by
  obtain ⟨_, _, g⟩ := (rtN_leaf hl).1 hr
  rw [hl, bdN_leaf hl]
  obtain ⟨B, c0, c1, c2, c3, hlt⟩ := ndCl w true ve vk vs 30
  have C : Hid _ := rencode_any ve n.es (w.alloc (.cells #[.bool true, ve, vk, vs] 30)) (h.e.below B) hs.e g
  obtain ⟨ae, ce, rfl, _⟩ := rowShape h.e
  have HB : Hid _ := B
  clear h B
  generalize enL n.es = L at *
  go_enter Try.func17, Try.ntmps17
  go_upto_region 1 with fail
  generalize w.alloc (.cells #[.bool true, .slice ae n.es.length ce, vk, vs] 30) = W at *
  go_wp2_with fail
  refine Calls.mono C.out ?_
  rintro e w1 ⟨rfl, b1⟩
  go_wp2
  go_ret
  exact ⟨rfl, belCall b1 HB.out⟩

theorem rowI_atB {w : World} {ao : Option Addr} {n c : Nat} {l : List Int} (h : Row encI 1 w (.slice ao n c) l) (i : Nat) (hi : i < l.length) : ∃ b off, ao = some ⟨b, off, none⟩ ∧ b < w.heap.size ∧ w.cell? ⟨b, off + i, none⟩ = some (.int .i64 l[i]!) := by
  obtain ⟨ao1, cap, e, h1, h2, h3⟩ := h
  cases e
  exact rowI_at h3 i hi (Below.refl _ _)
theorem rowS_atB {w : World} {ao : Option Addr} {n c : Nat} {l : List ByteArray} (h : Row encS 1 w (.slice ao n c) l) (i : Nat) (hi : i < l.length) : ∃ b off, ao = some ⟨b, off, none⟩ ∧ b < w.heap.size ∧ w.cell? ⟨b, off + i, none⟩ = some (.string l[i]!) := by
  obtain ⟨ao1, cap, e, h1, h2, h3⟩ := h
  cases e
  exact rowS_at h3 i hi (Below.refl _ _)

/-- What holds between the operations of the region. -/
def JBody (W0 : World) (p b off i nz cz : Nat) (s0 k c1 k4 : ByteArray) (y0 y2 y4 y7 y8 y9 y10 y11 y12 y13 y14 y15 y16 y17 y18 y19 y20 y21 y22 y23 y24 y25 y26 y27 y28 y29 y30 y31 y32 y33 y34 y35 y36 y37 y57 : Value) (f : List Bool) (a : Act) (w : World) : Prop :=
  ∃ f0 f1 f2 f3 f4 f5 f6 f7 f8 f9 f10 f11 f12 f13 f14 f15 f16 f17 f18 f19 : Bool, f = [f0, f1, f2, f3, f4, f5, f6, f7, f8, f9, f10, f11, f12, f13, f14, f15, f16, f17, f18, f19] ∧ f19 = false ∧ ∃ x38 x39 x40 x41 x42 x43 x44 x45 x46 x47 x48 x49 x50 x51 x52 x53 x54 x55 x56 : Value,
    a = { tmps := #[y0, .pointer (some ⟨p, 0, none⟩), y2, .string s0, y4, .int .i64 i, .string k4, y7, y8, y9, y10, y11, y12, y13, y14, y15, y16, y17, y18, y19, y20, y21, y22, y23, y24, y25, y26, y27, y28, y29, y30, y31, y32, y33, y34, y35, y36, y37, x38, x39, x40, x41, x42, x43, x44, x45, x46, x47, x48, x49, x50, x51, x52, x53, x54, x55, x56, y57], defers := [] } ∧ Below W0.heap.size W0 w ∧
    Hid (f0 = true → x38 = .string s0) ∧
    Hid (f1 = true → x39 = .pointer (some ⟨p, 3, none⟩)) ∧
    Hid (f2 = true → x40 = .slice (some ⟨b, off, none⟩) nz cz) ∧
    Hid (f3 = true → x41 = .int .i64 i) ∧
    Hid (f4 = true → x42 = .pointer (some ⟨b, off + i, none⟩)) ∧
    Hid (f5 = true → x43 = .string k) ∧
    Hid (f6 = true → x44 = .int .i64 (k.size : Int)) ∧
    Hid (f7 = true → x45 = .int .u8 (k.size : Int)) ∧
    Hid (f8 = true → ∃ qq, x46 = .slice (some ⟨qq, 0, none⟩) 1 1 ∧ Cl w qq #[.int .u8 (k.size : Int)] 5) ∧
    Hid (f9 = true → x47 = .string c1) ∧
    Hid (f10 = true → x48 = .string (s0 ++ c1)) ∧
    Hid (f11 = true → x49 = .pointer (some ⟨p, 3, none⟩)) ∧
    Hid (f12 = true → x50 = .slice (some ⟨b, off, none⟩) nz cz) ∧
    Hid (f13 = true → x51 = .int .i64 i) ∧
    Hid (f14 = true → x52 = .pointer (some ⟨b, off + i, none⟩)) ∧
    Hid (f15 = true → x53 = .string k) ∧
    Hid (f16 = true → x54 = .string (s0 ++ c1 ++ k)) ∧
    Hid (f17 = true → x55 = .string k4) ∧
    Hid (f18 = true → x56 = .string (s0 ++ c1 ++ k ++ k4))
theorem JBody.elim {W0 : World} {p b off i nz cz : Nat} {s0 k c1 k4 : ByteArray} {y0 y2 y4 y7 y8 y9 y10 y11 y12 y13 y14 y15 y16 y17 y18 y19 y20 y21 y22 y23 y24 y25 y26 y27 y28 y29 y30 y31 y32 y33 y34 y35 y36 y37 y57 : Value} {f : List Bool} {a : Act} {w : World} {C : List Bool → Act → World → Prop} (h : JBody W0 p b off i nz cz s0 k c1 k4 y0 y2 y4 y7 y8 y9 y10 y11 y12 y13 y14 y15 y16 y17 y18 y19 y20 y21 y22 y23 y24 y25 y26 y27 y28 y29 y30 y31 y32 y33 y34 y35 y36 y37 y57 f a w)
    (k : ∀ (f0 f1 f2 f3 f4 f5 f6 f7 f8 f9 f10 f11 f12 f13 f14 f15 f16 f17 f18 f19 : Bool) (x38 x39 x40 x41 x42 x43 x44 x45 x46 x47 x48 x49 x50 x51 x52 x53 x54 x55 x56 : Value), f19 = false → Below W0.heap.size W0 w →
      Hid (f0 = true → x38 = .string s0) →
      Hid (f1 = true → x39 = .pointer (some ⟨p, 3, none⟩)) →
      Hid (f2 = true → x40 = .slice (some ⟨b, off, none⟩) nz cz) →
      Hid (f3 = true → x41 = .int .i64 i) →
      Hid (f4 = true → x42 = .pointer (some ⟨b, off + i, none⟩)) →
      Hid (f5 = true → x43 = .string k) →
      Hid (f6 = true → x44 = .int .i64 (k.size : Int)) →
      Hid (f7 = true → x45 = .int .u8 (k.size : Int)) →
      Hid (f8 = true → ∃ qq, x46 = .slice (some ⟨qq, 0, none⟩) 1 1 ∧ Cl w qq #[.int .u8 (k.size : Int)] 5) →
      Hid (f9 = true → x47 = .string c1) →
      Hid (f10 = true → x48 = .string (s0 ++ c1)) →
      Hid (f11 = true → x49 = .pointer (some ⟨p, 3, none⟩)) →
      Hid (f12 = true → x50 = .slice (some ⟨b, off, none⟩) nz cz) →
      Hid (f13 = true → x51 = .int .i64 i) →
      Hid (f14 = true → x52 = .pointer (some ⟨b, off + i, none⟩)) →
      Hid (f15 = true → x53 = .string k) →
      Hid (f16 = true → x54 = .string (s0 ++ c1 ++ k)) →
      Hid (f17 = true → x55 = .string k4) →
      Hid (f18 = true → x56 = .string (s0 ++ c1 ++ k ++ k4)) →
      C [f0, f1, f2, f3, f4, f5, f6, f7, f8, f9, f10, f11, f12, f13, f14, f15, f16, f17, f18, f19] { tmps := #[y0, .pointer (some ⟨p, 0, none⟩), y2, .string s0, y4, .int .i64 i, .string k4, y7, y8, y9, y10, y11, y12, y13, y14, y15, y16, y17, y18, y19, y20, y21, y22, y23, y24, y25, y26, y27, y28, y29, y30, y31, y32, y33, y34, y35, y36, y37, x38, x39, x40, x41, x42, x43, x44, x45, x46, x47, x48, x49, x50, x51, x52, x53, x54, x55, x56, y57], defers := [] } w) : C f a w :=
  let ⟨f0, f1, f2, f3, f4, f5, f6, f7, f8, f9, f10, f11, f12, f13, f14, f15, f16, f17, f18, f19, ef, e, x38, x39, x40, x41, x42, x43, x44, x45, x46, x47, x48, x49, x50, x51, x52, x53, x54, x55, x56, ea, hB, h0, h1, h2, h3, h4, h5, h6, h7, h8, h9, h10, h11, h12, h13, h14, h15, h16, h17, h18⟩ := h
  ef ▸ ea ▸ k f0 f1 f2 f3 f4 f5 f6 f7 f8 f9 f10 f11 f12 f13 f14 f15 f16 f17 f18 f19 x38 x39 x40 x41 x42 x43 x44 x45 x46 x47 x48 x49 x50 x51 x52 x53 x54 x55 x56 e hB h0 h1 h2 h3 h4 h5 h6 h7 h8 h9 h10 h11 h12 h13 h14 h15 h16 h17 h18

set_option maxHeartbeats 8000000 in
set_option maxRecDepth 100000 in
theorem rbody_inner (k0 : Int) (ps : List Pk) (ve vk vs : Value) (w : World) (h : NdR w ve vk vs (inN k0 ps)) (hs : Sm (inN k0 ps)) (hk0 : okK k0 = true) (hkk : ∀ p ∈ ps, okK p.2 = true) (hky : kyB (ps.map (·.1)) = true) :
    Calls Try.prog 17 #[.agg #[.bool false, ve, vk, vs]] w fun e w' => e = .returned (.string ⟨(b4 k0 ++ bdP ps).toArray⟩) ∧ Below w.heap.size w w' := by
  have s3 : ps.length ≤ 1000 := by have := hs.s; simpa [inN] using this
  have he := h.e
  have hk := h.k
  have hss := h.s
  simp only [inN] at he hk hss
  obtain ⟨ae, ce, rfl, _⟩ := rowShape he
  obtain ⟨ak, ck, rfl, _⟩ := rowShape hk
  obtain ⟨az, cz, rfl, _⟩ := rowShape hss
  simp only [List.length_cons, List.length_map, List.length_nil] at *
  have B : Below w.heap.size w (w.alloc (.cells #[.bool false, .slice ae 0 ce, .slice ak (ps.length + 1) ck, .slice az ps.length cz] 30)) := belAlloc _ (Below.refl _ _)
  have KP0 : Aside (Cl (w.alloc (.cells #[.bool false, .slice ae 0 ce, .slice ak (ps.length + 1) ck, .slice az ps.length cz] 30)) w.heap.size #[.bool false, .slice ae 0 ce, .slice ak (ps.length + 1) ck, .slice az ps.length cz] 30) := Cl.new0 _ _ _
  have RK : Aside (Row encI 1 (w.alloc (.cells #[.bool false, .slice ae 0 ce, .slice ak (ps.length + 1) ck, .slice az ps.length cz] 30)) (.slice ak (ps.length + 1) ck) (k0 :: ps.map (·.2))) := hk.below B
  have RS : Aside (Row encS 1 (w.alloc (.cells #[.bool false, .slice ae 0 ce, .slice ak (ps.length + 1) ck, .slice az ps.length cz] 30)) (.slice az ps.length cz) (ps.map (·.1))) := hss.below B
  have HB : Hid _ := B
  have HKK : Hid (∀ p ∈ ps, okK p.2 = true) := hkk
  have HKY : Hid (kyB (ps.map (·.1)) = true) := hky
  clear he hk hss B h hs hkk hky
  obtain ⟨n0, hn0⟩ : ∃ N : Nat, k0 = (N : Int) := ⟨k0.toNat, by have := okK_iff.1 hk0; omega⟩
  have C0 : Hid _ := qput4 n0 (w.alloc (.cells #[.bool false, .slice ae 0 ce, .slice ak (ps.length + 1) ck, .slice az ps.length cz] 30)) (by have := okK_iff.1 hk0; omega)
  have bn : beBytes 4 n0 = b4 k0 := by unfold b4; rw [hn0]; simp
  rw [bn] at C0
  have bl0 := b4_length k0
  generalize b4 k0 = L0 at *
  subst hn0
  clear bn hk0
  go_enter Try.func17, Try.ntmps17
  go_upto_region 1 with fail
  generalize (w.alloc (.cells #[.bool false, .slice ae 0 ce, .slice ak (ps.length + 1) ck, .slice az ps.length cz] 30)) = W at *
  obtain ⟨p, hp⟩ : ∃ p, w.heap.size = p := ⟨_, rfl⟩
  have HP : Hid (w.heap.size = p) := hp
  rw [hp] at KP0 ⊢
  clear hp
  obtain ⟨c0, c1, c2, c3⟩ := KP0.out.four
  obtain ⟨kb, ko, rfl, hkb, x0⟩ := rowI_atB RK.out 0 (by simp)
  simp only [Nat.add_zero, List.getElem!_cons_zero] at x0
  have i0 : (0 : Int) < (ps.length : Int) + 1 := by omega
  go_wp2_with fail
  refine Calls.mono C0.out ?_
  rintro e w1 ⟨rfl, bb1⟩
  clear C0 x0 c0 c1 c2 c3
  have B1 : Hid (Below W.heap.size W w1) := bb1
  clear bb1
  go_wp2
  go_loopg [3, 5] ps.length (fun kx s3 s5 wr => ∃ (ix : Nat) (S : List UInt8), s3 = .string ⟨S.toArray⟩ ∧ s5 = .int .i64 ix ∧ ix ≤ ps.length ∧ ps.length - ix ≤ kx ∧ S.length ≤ 4 + 25 * ix ∧ Hid (L0 ++ bdP (ps.take ix) = S) ∧ Hid (Below W.heap.size W wr))
  case atStart => exact ⟨0, L0, rfl, rfl, Nat.zero_le _, Nat.le_refl _, by omega, by show _ = _; simp [bdP], B1⟩
  case round =>
    clear B1
    obtain ⟨ix, S, rfl, rfl, hi, hki, hSl, HS, HB5⟩ := hrel
    obtain ⟨c0, c1, c2, c3⟩ := (KP0.out.on HB5.out).four
    by_cases hil : ix < ps.length
    · have hilz : (ix : Int) < (ps.length : Int) := by omega
      have iz : (ix : Int) + 1 < (ps.length : Int) + 1 := by omega
      obtain ⟨_, _, e9, _, y1⟩ := rowI_atB (RK.out.below HB5.out) (ix + 1) (by simp; omega)
      cases e9
      have ey : ((n0 : Int) :: ps.map (·.2))[ix + 1]! = ps[ix]!.2 := by
        have : ((n0 : Int) :: ps.map (·.2))[ix + 1]! = (ps.map (·.2))[ix]! := by simp
        rw [this, bangS hil]
      rw [ey] at y1
      have T : Hid _ := bdP_snoc hil
      have hkx := HKK.out _ (bang_mem hil)
      have hsx := (kyB_may HKY.out (List.mem_map_of_mem (f := (·.1)) (bang_mem hil))).2
      have RS2 : Aside (ps[ix]!.1 = (ps.map (·.1))[ix]!) := (bangS hil).symm
      clear ey
      generalize ps[ix]! = x at *
      obtain ⟨k, kx1⟩ := x
      simp only at y1 hkx hsx T RS2
      obtain ⟨n1', hn1⟩ : ∃ N : Nat, kx1 = (N : Int) := ⟨kx1.toNat, by have := okK_iff.1 hkx; omega⟩
      have C1 : Hid _ := qput4 n1' wr (by have := okK_iff.1 hkx; omega)
      have bn : beBytes 4 n1' = b4 kx1 := by unfold b4; rw [hn1]; simp
      rw [bn] at C1
      have bl1 := b4_length kx1
      have N := bd_next S (k, kx1)
      dsimp only at N
      rw [hn1] at y1
      clear bn hkx
      obtain ⟨k4, hk4⟩ : ∃ x : ByteArray, (⟨(b4 kx1).toArray⟩ : ByteArray) = x := ⟨_, rfl⟩
      have l4 : k4.size = 4 := by rw [← hk4, ba_size, bl1]
      rw [hk4] at C1 N
      clear hk4
      go_wp2_with fail
      refine Calls.mono C1.out ?_
      rintro e w4 ⟨rfl, hb4⟩
      have B4 : Hid (Below W.heap.size W w4) := HB5.out.trans (hb4.mono HB5.out.size)
      clear C1 hb4 HB5 y1 c0 c1 c2 c3
      obtain ⟨b, off, rfl, hb, x1⟩ := rowS_atB (RS.out.below B4.out) ix (by simp; omega)
      rw [← RS2.out] at x1
      have X1 : Hid _ := x1
      have bl : Hid (b < w4.heap.size) := hb
      have KP : Aside (Cl w4 p #[.bool false, .slice ae 0 ce, .slice (some ⟨kb, ko, none⟩) (ps.length + 1) ck, .slice (some ⟨b, off, none⟩) ps.length cz] 30) := KP0.out.on B4.out
      clear x1 hb RS2
      have N1 : Hid ((k.size : Int) = ((UInt8.ofNat k.size).toNat : Int)) := by show _ = _; rw [ofNat_size (by omega)]
      have u1 : IntKind.u8.wrap (k.size : Int) = (k.size : Int) := by rw [IntKind.wrap_u8]; omega
      obtain ⟨S2, hS2⟩ : ∃ S2, S ++ (txL k ++ b4 kx1) = S2 := ⟨_, rfl⟩
      have hl2 : S2.length ≤ 4 + 25 * (ix + 1) := by
        rw [← hS2, List.length_append, List.length_append, bl1]
        have : (txL k).length = k.size + 1 := by simp [txL]
        omega
      have T2 : Hid (L0 ++ bdP (ps.take (ix + 1)) = S2) := by show _ = _; rw [← hS2, T.out, ← HS.out, List.append_assoc]
      rw [hS2] at N
      clear hS2 T HS hn1 bl1
      have l0 : (⟨S.toArray⟩ : ByteArray).size = S.length := ba_size S
      obtain ⟨c1, hc1⟩ : ∃ c : ByteArray, (⟨#[UInt8.ofNat k.size]⟩ : ByteArray) = c := ⟨_, rfl⟩
      have l1 : c1.size = 1 := by rw [← hc1]; rfl
      have HC1 : Hid ((⟨#[UInt8.ofNat k.size]⟩ : ByteArray) = c1) := hc1
      rw [hc1] at N
      generalize (⟨S.toArray⟩ : ByteArray) = s0 at *
      have N2 : Hid (s0 ++ c1 ++ k ++ k4 = ⟨S2.toArray⟩) := N
      have w1 : ¬ 9223372036854775807 < s0.size + c1.size := by omega
      have w2 : ¬ 9223372036854775807 < s0.size + c1.size + k.size := by omega
      have w3 : ¬ 9223372036854775807 < s0.size + c1.size + k.size + k4.size := by omega
      clear N hc1 l0 l1 l4
      go_upto_region 8 with fail
      refine region_inv 19 (JBody w4 p b off ix ps.length cz s0 k c1 k4 _ _ _ _ _ _ _ _ _ _ _ _ _ _ _ _ _ _ _ _ _ _ _ _ _ _ _ _ _ _ _ _ _ _ _) (by kernel_rfl) (by kernel_rfl) (by kernel_rfl) ⟨false, false, false, false, false, false, false, false, false, false, false, false, false, false, false, false, false, false, false, false, rfl, rfl, _, _, _, _, _, _, _, _, _, _, _, _, _, _, _, _, _, _, _, rfl, (Below.refl _ w4).drew, (fun h => by cases h), (fun h => by cases h), (fun h => by cases h), (fun h => by cases h), (fun h => by cases h), (fun h => by cases h), (fun h => by cases h), (fun h => by cases h), (fun h => by cases h), (fun h => by cases h), (fun h => by cases h), (fun h => by cases h), (fun h => by cases h), (fun h => by cases h), (fun h => by cases h), (fun h => by cases h), (fun h => by cases h), (fun h => by cases h), (fun h => by cases h)⟩ ?_ ?_ ?_
      · intro i f a w' hne hl hJ
        refine JBody.elim hJ (C := fun f a w' => i ∈ Region.ready .any _ f.toArray → wpOp _ _ _ i (fun a' w'' => JBody w4 p b off ix ps.length cz s0 k c1 k4 _ _ _ _ _ _ _ _ _ _ _ _ _ _ _ _ _ _ _ _ _ _ _ _ _ _ _ _ _ _ _ _ _ _ _ (f.set i true) a' w'') a w') ?_
        clear hJ hl f a
        intro f0 f1 f2 f3 f4 f5 f6 f7 f8 f9 f10 f11 f12 f13 f14 f15 f16 f17 f18 f19 x38 x39 x40 x41 x42 x43 x44 x45 x46 x47 x48 x49 x50 x51 x52 x53 x54 x55 x56 e19 hB h0 h1 h2 h3 h4 h5 h6 h7 h8 h9 h10 h11 h12 h13 h14 h15 h16 h17 h18 hi
        obtain ⟨hlt, hun, _⟩ := ready_mem hi
        have hlt' : i < 20 := hlt
        clear hlt
        rcases (by omega : i = 0 ∨ i = 1 ∨ i = 2 ∨ i = 3 ∨ i = 4 ∨ i = 5 ∨ i = 6 ∨ i = 7 ∨ i = 8 ∨ i = 9 ∨ i = 10 ∨ i = 11 ∨ i = 12 ∨ i = 13 ∨ i = 14 ∨ i = 15 ∨ i = 16 ∨ i = 17 ∨ i = 18) with rfl | rfl | rfl | rfl | rfl | rfl | rfl | rfl | rfl | rfl | rfl | rfl | rfl | rfl | rfl | rfl | rfl | rfl | rfl
        · have un : f0 = false := hun
          clear hun
          clear hi hne hlt'
          refine wpOp_step rfl (fun K hK => ?_)
          have HK : Shut _ := hK
          clear hK
          go_simp
          refine HK.out _ _ ?_
          exact ⟨true, f1, f2, f3, f4, f5, f6, f7, f8, f9, f10, f11, f12, f13, f14, f15, f16, f17, f18, f19, rfl, e19, _, _, _, _, _, _, _, _, _, _, _, _, _, _, _, _, _, _, _, rfl, hB, (fun _ => rfl), h1, h2, h3, h4, h5, h6, h7, h8, h9, h10, h11, h12, h13, h14, h15, h16, h17, h18⟩
        · have un : f1 = false := hun
          clear hun
          clear hi hne hlt'
          refine wpOp_step rfl (fun K hK => ?_)
          have HK : Shut _ := hK
          clear hK
          go_simp
          refine HK.out _ _ ?_
          exact ⟨f0, true, f2, f3, f4, f5, f6, f7, f8, f9, f10, f11, f12, f13, f14, f15, f16, f17, f18, f19, rfl, e19, _, _, _, _, _, _, _, _, _, _, _, _, _, _, _, _, _, _, _, rfl, hB, h0, (fun _ => rfl), h2, h3, h4, h5, h6, h7, h8, h9, h10, h11, h12, h13, h14, h15, h16, h17, h18⟩
        · have un : f2 = false := hun
          clear hun
          have d1 : f1 = true := ready_dep 1 hi (by kernel_rfl)
          have y1 := h1.out d1
          subst y1
          clear hi hne hlt'
          obtain ⟨i0, i1, i2, i3⟩ := (KP.out.on hB).four
          refine wpOp_step rfl (fun K hK => ?_)
          have HK : Shut _ := hK
          clear hK
          go_simp
          refine HK.out _ _ ?_
          exact ⟨f0, f1, true, f3, f4, f5, f6, f7, f8, f9, f10, f11, f12, f13, f14, f15, f16, f17, f18, f19, rfl, e19, _, _, _, _, _, _, _, _, _, _, _, _, _, _, _, _, _, _, _, rfl, hB, h0, h1, (fun _ => rfl), h3, h4, h5, h6, h7, h8, h9, h10, h11, h12, h13, h14, h15, h16, h17, h18⟩
        · have un : f3 = false := hun
          clear hun
          clear hi hne hlt'
          refine wpOp_step rfl (fun K hK => ?_)
          have HK : Shut _ := hK
          clear hK
          go_simp
          refine HK.out _ _ ?_
          exact ⟨f0, f1, f2, true, f4, f5, f6, f7, f8, f9, f10, f11, f12, f13, f14, f15, f16, f17, f18, f19, rfl, e19, _, _, _, _, _, _, _, _, _, _, _, _, _, _, _, _, _, _, _, rfl, hB, h0, h1, h2, (fun _ => rfl), h4, h5, h6, h7, h8, h9, h10, h11, h12, h13, h14, h15, h16, h17, h18⟩
        · have un : f4 = false := hun
          clear hun
          have d2 : f2 = true := ready_dep 2 hi (by kernel_rfl)
          have y2 := h2.out d2
          subst y2
          have d3 : f3 = true := ready_dep 3 hi (by kernel_rfl)
          have y3 := h3.out d3
          subst y3
          clear hi hne hlt'
          refine wpOp_step rfl (fun K hK => ?_)
          have HK : Shut _ := hK
          clear hK
          go_simp
          refine HK.out _ _ ?_
          exact ⟨f0, f1, f2, f3, true, f5, f6, f7, f8, f9, f10, f11, f12, f13, f14, f15, f16, f17, f18, f19, rfl, e19, _, _, _, _, _, _, _, _, _, _, _, _, _, _, _, _, _, _, _, rfl, hB, h0, h1, h2, h3, (fun _ => rfl), h5, h6, h7, h8, h9, h10, h11, h12, h13, h14, h15, h16, h17, h18⟩
        · have un : f5 = false := hun
          clear hun
          have d4 : f4 = true := ready_dep 4 hi (by kernel_rfl)
          have y4 := h4.out d4
          subst y4
          clear hi hne hlt'
          have xx := (hB.cell (p := ⟨b, off + ix, none⟩) bl.out).trans X1.out
          refine wpOp_step rfl (fun K hK => ?_)
          have HK : Shut _ := hK
          clear hK
          go_simp
          refine HK.out _ _ ?_
          exact ⟨f0, f1, f2, f3, f4, true, f6, f7, f8, f9, f10, f11, f12, f13, f14, f15, f16, f17, f18, f19, rfl, e19, _, _, _, _, _, _, _, _, _, _, _, _, _, _, _, _, _, _, _, rfl, hB, h0, h1, h2, h3, h4, (fun _ => rfl), h6, h7, h8, h9, h10, h11, h12, h13, h14, h15, h16, h17, h18⟩
        · have un : f6 = false := hun
          clear hun
          have d5 : f5 = true := ready_dep 5 hi (by kernel_rfl)
          have y5 := h5.out d5
          subst y5
          clear hi hne hlt'
          refine wpOp_step rfl (fun K hK => ?_)
          have HK : Shut _ := hK
          clear hK
          go_simp
          refine HK.out _ _ ?_
          exact ⟨f0, f1, f2, f3, f4, f5, true, f7, f8, f9, f10, f11, f12, f13, f14, f15, f16, f17, f18, f19, rfl, e19, _, _, _, _, _, _, _, _, _, _, _, _, _, _, _, _, _, _, _, rfl, hB, h0, h1, h2, h3, h4, h5, (fun _ => rfl), h7, h8, h9, h10, h11, h12, h13, h14, h15, h16, h17, h18⟩
        · have un : f7 = false := hun
          clear hun
          have d6 : f6 = true := ready_dep 6 hi (by kernel_rfl)
          have y6 := h6.out d6
          subst y6
          clear hi hne hlt'
          refine wpOp_step rfl (fun K hK => ?_)
          have HK : Shut _ := hK
          clear hK
          go_simp
          refine HK.out _ _ ?_
          exact ⟨f0, f1, f2, f3, f4, f5, f6, true, f8, f9, f10, f11, f12, f13, f14, f15, f16, f17, f18, f19, rfl, e19, _, _, _, _, _, _, _, _, _, _, _, _, _, _, _, _, _, _, _, rfl, hB, h0, h1, h2, h3, h4, h5, h6, (fun _ => rfl), h8, h9, h10, h11, h12, h13, h14, h15, h16, h17, h18⟩
        · have un : f8 = false := hun
          clear hun
          have d7 : f7 = true := ready_dep 7 hi (by kernel_rfl)
          have y7 := h7.out d7
          subst y7
          clear hi hne hlt'
          refine wpOp_step rfl (fun K hK => ?_)
          have HK : Shut _ := hK
          clear hK
          go_simp
          refine HK.out _ _ ?_
          exact ⟨f0, f1, f2, f3, f4, f5, f6, f7, true, f9, f10, f11, f12, f13, f14, f15, f16, f17, f18, f19, rfl, e19, _, _, _, _, _, _, _, _, _, _, _, _, _, _, _, _, _, _, _, rfl, belAlloc _ hB, h0, h1, h2, h3, h4, h5, h6, h7, (fun _ => ⟨_, rfl, Cl.new _ _ _⟩), h9, h10, h11, h12, h13, h14, h15, h16, h17, h18⟩
        · have un : f9 = false := hun
          clear hun
          have d8 : f8 = true := ready_dep 8 hi (by kernel_rfl)
          obtain ⟨q8, y8, c8⟩ := h8.out d8
          subst y8
          clear hi hne hlt'
          have cv := conv_at N1.out c8
          rw [HC1.out] at cv
          refine wpOp_step rfl (fun K hK => ?_)
          have HK : Shut _ := hK
          clear hK
          go_simp
          refine HK.out _ _ ?_
          exact ⟨f0, f1, f2, f3, f4, f5, f6, f7, f8, true, f10, f11, f12, f13, f14, f15, f16, f17, f18, f19, rfl, e19, _, _, _, _, _, _, _, _, _, _, _, _, _, _, _, _, _, _, _, rfl, hB, h0, h1, h2, h3, h4, h5, h6, h7, h8, (fun _ => rfl), h10, h11, h12, h13, h14, h15, h16, h17, h18⟩
        · have un : f10 = false := hun
          clear hun
          have d0 : f0 = true := ready_dep 0 hi (by kernel_rfl)
          have y0 := h0.out d0
          subst y0
          have d9 : f9 = true := ready_dep 9 hi (by kernel_rfl)
          have y9 := h9.out d9
          subst y9
          clear hi hne hlt'
          refine wpOp_step rfl (fun K hK => ?_)
          have HK : Shut _ := hK
          clear hK
          go_simp
          refine HK.out _ _ ?_
          exact ⟨f0, f1, f2, f3, f4, f5, f6, f7, f8, f9, true, f11, f12, f13, f14, f15, f16, f17, f18, f19, rfl, e19, _, _, _, _, _, _, _, _, _, _, _, _, _, _, _, _, _, _, _, rfl, hB, h0, h1, h2, h3, h4, h5, h6, h7, h8, h9, (fun _ => rfl), h11, h12, h13, h14, h15, h16, h17, h18⟩
        · have un : f11 = false := hun
          clear hun
          clear hi hne hlt'
          refine wpOp_step rfl (fun K hK => ?_)
          have HK : Shut _ := hK
          clear hK
          go_simp
          refine HK.out _ _ ?_
          exact ⟨f0, f1, f2, f3, f4, f5, f6, f7, f8, f9, f10, true, f12, f13, f14, f15, f16, f17, f18, f19, rfl, e19, _, _, _, _, _, _, _, _, _, _, _, _, _, _, _, _, _, _, _, rfl, hB, h0, h1, h2, h3, h4, h5, h6, h7, h8, h9, h10, (fun _ => rfl), h12, h13, h14, h15, h16, h17, h18⟩
        · have un : f12 = false := hun
          clear hun
          have d11 : f11 = true := ready_dep 11 hi (by kernel_rfl)
          have y11 := h11.out d11
          subst y11
          clear hi hne hlt'
          obtain ⟨i0, i1, i2, i3⟩ := (KP.out.on hB).four
          refine wpOp_step rfl (fun K hK => ?_)
          have HK : Shut _ := hK
          clear hK
          go_simp
          refine HK.out _ _ ?_
          exact ⟨f0, f1, f2, f3, f4, f5, f6, f7, f8, f9, f10, f11, true, f13, f14, f15, f16, f17, f18, f19, rfl, e19, _, _, _, _, _, _, _, _, _, _, _, _, _, _, _, _, _, _, _, rfl, hB, h0, h1, h2, h3, h4, h5, h6, h7, h8, h9, h10, h11, (fun _ => rfl), h13, h14, h15, h16, h17, h18⟩
        · have un : f13 = false := hun
          clear hun
          clear hi hne hlt'
          refine wpOp_step rfl (fun K hK => ?_)
          have HK : Shut _ := hK
          clear hK
          go_simp
          refine HK.out _ _ ?_
          exact ⟨f0, f1, f2, f3, f4, f5, f6, f7, f8, f9, f10, f11, f12, true, f14, f15, f16, f17, f18, f19, rfl, e19, _, _, _, _, _, _, _, _, _, _, _, _, _, _, _, _, _, _, _, rfl, hB, h0, h1, h2, h3, h4, h5, h6, h7, h8, h9, h10, h11, h12, (fun _ => rfl), h14, h15, h16, h17, h18⟩
        · have un : f14 = false := hun
          clear hun
          have d12 : f12 = true := ready_dep 12 hi (by kernel_rfl)
          have y12 := h12.out d12
          subst y12
          have d13 : f13 = true := ready_dep 13 hi (by kernel_rfl)
          have y13 := h13.out d13
          subst y13
          clear hi hne hlt'
          refine wpOp_step rfl (fun K hK => ?_)
          have HK : Shut _ := hK
          clear hK
          go_simp
          refine HK.out _ _ ?_
          exact ⟨f0, f1, f2, f3, f4, f5, f6, f7, f8, f9, f10, f11, f12, f13, true, f15, f16, f17, f18, f19, rfl, e19, _, _, _, _, _, _, _, _, _, _, _, _, _, _, _, _, _, _, _, rfl, hB, h0, h1, h2, h3, h4, h5, h6, h7, h8, h9, h10, h11, h12, h13, (fun _ => rfl), h15, h16, h17, h18⟩
        · have un : f15 = false := hun
          clear hun
          have d14 : f14 = true := ready_dep 14 hi (by kernel_rfl)
          have y14 := h14.out d14
          subst y14
          clear hi hne hlt'
          have xx := (hB.cell (p := ⟨b, off + ix, none⟩) bl.out).trans X1.out
          refine wpOp_step rfl (fun K hK => ?_)
          have HK : Shut _ := hK
          clear hK
          go_simp
          refine HK.out _ _ ?_
          exact ⟨f0, f1, f2, f3, f4, f5, f6, f7, f8, f9, f10, f11, f12, f13, f14, true, f16, f17, f18, f19, rfl, e19, _, _, _, _, _, _, _, _, _, _, _, _, _, _, _, _, _, _, _, rfl, hB, h0, h1, h2, h3, h4, h5, h6, h7, h8, h9, h10, h11, h12, h13, h14, (fun _ => rfl), h16, h17, h18⟩
        · have un : f16 = false := hun
          clear hun
          have d10 : f10 = true := ready_dep 10 hi (by kernel_rfl)
          have y10 := h10.out d10
          subst y10
          have d15 : f15 = true := ready_dep 15 hi (by kernel_rfl)
          have y15 := h15.out d15
          subst y15
          clear hi hne hlt'
          refine wpOp_step rfl (fun K hK => ?_)
          have HK : Shut _ := hK
          clear hK
          go_simp
          refine HK.out _ _ ?_
          exact ⟨f0, f1, f2, f3, f4, f5, f6, f7, f8, f9, f10, f11, f12, f13, f14, f15, true, f17, f18, f19, rfl, e19, _, _, _, _, _, _, _, _, _, _, _, _, _, _, _, _, _, _, _, rfl, hB, h0, h1, h2, h3, h4, h5, h6, h7, h8, h9, h10, h11, h12, h13, h14, h15, (fun _ => rfl), h17, h18⟩
        · have un : f17 = false := hun
          clear hun
          clear hi hne hlt'
          refine wpOp_step rfl (fun K hK => ?_)
          have HK : Shut _ := hK
          clear hK
          go_simp
          refine HK.out _ _ ?_
          exact ⟨f0, f1, f2, f3, f4, f5, f6, f7, f8, f9, f10, f11, f12, f13, f14, f15, f16, true, f18, f19, rfl, e19, _, _, _, _, _, _, _, _, _, _, _, _, _, _, _, _, _, _, _, rfl, hB, h0, h1, h2, h3, h4, h5, h6, h7, h8, h9, h10, h11, h12, h13, h14, h15, h16, (fun _ => rfl), h18⟩
        · have un : f18 = false := hun
          clear hun
          have d16 : f16 = true := ready_dep 16 hi (by kernel_rfl)
          have y16 := h16.out d16
          subst y16
          have d17 : f17 = true := ready_dep 17 hi (by kernel_rfl)
          have y17 := h17.out d17
          subst y17
          clear hi hne hlt'
          refine wpOp_step rfl (fun K hK => ?_)
          have HK : Shut _ := hK
          clear hK
          go_simp
          refine HK.out _ _ ?_
          exact ⟨f0, f1, f2, f3, f4, f5, f6, f7, f8, f9, f10, f11, f12, f13, f14, f15, f16, f17, true, f19, rfl, e19, _, _, _, _, _, _, _, _, _, _, _, _, _, _, _, _, _, _, _, rfl, hB, h0, h1, h2, h3, h4, h5, h6, h7, h8, h9, h10, h11, h12, h13, h14, h15, h16, h17, (fun _ => rfl)⟩
      · intro f a w' hl hJ
        refine JBody.elim hJ (C := fun f a w' => 19 ∈ Region.ready .any _ f.toArray → wpOp _ _ _ 19 _ a w') ?_
        clear hJ hl f a
        intro f0 f1 f2 f3 f4 f5 f6 f7 f8 f9 f10 f11 f12 f13 f14 f15 f16 f17 f18 f19 x38 x39 x40 x41 x42 x43 x44 x45 x46 x47 x48 x49 x50 x51 x52 x53 x54 x55 x56 e19 hB h0 h1 h2 h3 h4 h5 h6 h7 h8 h9 h10 h11 h12 h13 h14 h15 h16 h17 h18 hi
        have d18 : f18 = true := ready_dep 18 hi (by kernel_rfl)
        have y18 := h18.out d18
        subst y18
        clear hi
        refine wpOp_step rfl (fun K hK => ?_)
        have HK : Shut _ := hK
        clear hK
        go_simp
        refine HK.out _ _ ?_
        have BW : Hid (Below W.heap.size W w') := B4.out.trans (hB.mono B4.out.size)
        clear hB h0 h1 h2 h3 h4 h5 h6 h7 h8 h9 h10 h11 h12 h13 h14 h15 h16 h17 h18
        rw [N2.out]
        go_wp2
        go_roundg (ps.length - (ix + 1))
        case measure => omega
        case rel => exact ⟨ix + 1, S2, rfl, by go_num, by omega, Nat.le_refl _, hl2, T2, BW⟩
      · rintro f a w' ⟨f0, f1, f2, f3, f4, f5, f6, f7, f8, f9, f10, f11, f12, f13, f14, f15, f16, f17, f18, f19, rfl, rfl, _⟩
        rfl
    · have hilz : ¬ (ix : Int) < (ps.length : Int) := by omega
      obtain rfl : ix = ps.length := by omega
      rw [List.take_length] at HS
      go_wp2
      go_ret
      exact ⟨by rw [HS.out]; rfl, belCall (HB5.out.trans (Below.refl _ _)) HB.out⟩

theorem rbody_any (n : Nd) (ve vk vs : Value) (w : World) (h : NdR w ve vk vs n) (hs : Sm n) (hr : rtN n = true) :
    Calls Try.prog 17 #[.agg #[.bool n.leaf, ve, vk, vs]] w fun e w' => e = .returned (.string ⟨(bdN n).toArray⟩) ∧ Below w.heap.size w w' := by
  cases hl : n.leaf
  · obtain ⟨k, ps, rfl, h1, h2, h3⟩ := rtN_pairs hr hl
    rw [bdN_in]
    exact rbody_inner k ps ve vk vs w h hs h1 h2 h3
  · have := rbody_leaf n ve vk vs w h hs hr hl
    rw [hl] at this
    exact this

end Go.Proofs.Ytmamnlphhiaeoaa

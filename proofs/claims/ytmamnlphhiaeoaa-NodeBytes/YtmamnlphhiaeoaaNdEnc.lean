/-
  The walk of package node's Encode.
-/
import Derived.Test.YtmamnlphhiaeoaaNdCode
import Derived.OwnWalk
namespace Go.Proofs.Ytmamnlphhiaeoaa
open Go.Shelf Go.RowKit Go.Lib Go.Sort

/-- What Encode answers: the kind, the bytes, the error. -/
def enK (n : Nd) : Int := if fiN n = true then kdN n else 0
def enS (n : Nd) : ByteArray := if fiN n = true then ⟨(bdN n).toArray⟩ else ⟨#[]⟩
def enE2 (n : Nd) : Int := if rtN n = true then (if szN n ≤ 240 then 0 else 50) else 1
theorem en_no {n : Nd} (h : rtN n = false) : enK n = 0 ∧ enS n = ⟨#[]⟩ ∧ enE2 n = 1 := by
  unfold enK enS enE2 fiN; rw [h]; exact ⟨rfl, rfl, rfl⟩
theorem en_long {n : Nd} (h : rtN n = true) (h2 : ¬ szN n ≤ 240) : enK n = 0 ∧ enS n = ⟨#[]⟩ ∧ enE2 n = 50 := by
  unfold enK enS enE2 fiN; rw [h, decide_eq_false h2, if_neg h2]; exact ⟨rfl, rfl, rfl⟩
theorem en_yes {n : Nd} (h : rtN n = true) (h2 : szN n ≤ 240) : enK n = kdN n ∧ enS n = ⟨(bdN n).toArray⟩ ∧ enE2 n = 0 := by
  unfold enK enS enE2 fiN; rw [h, decide_eq_true h2, if_pos h2]; exact ⟨rfl, rfl, rfl⟩

set_option maxHeartbeats 4000000 in
set_option maxRecDepth 100000 in
theorem encode_no (n : Nd) (ve vk vs : Value) (w : World) (h : NdR w ve vk vs n) (hs : Sm n) (hr : rtN n = false) :
    Calls Try.prog 16 #[.agg #[.bool n.leaf, ve, vk, vs]] w fun e w' => e = .returned (.tuple #[.int .u8 0, .string ⟨#[]⟩, .int .i64 1]) ∧ Below w.heap.size w w' := by
  obtain ⟨lf, hlf⟩ : ∃ x, n.leaf = x := ⟨_, rfl⟩
  obtain ⟨B, c0, c1, c2, c3, hlt⟩ := ndCl w lf ve vk vs 26
  have HR : Aside (NdR (w.alloc (.cells #[.bool lf, ve, vk, vs] 26)) ve vk vs n) := h.below B
  have CR : Hid _ := nright_any n ve vk vs _ HR.out hs
  have HB : Hid _ := B
  rw [hlf] at CR ⊢
  have HL : Hid (n.leaf = lf) := hlf
  rw [hr] at CR
  clear hr HR
  obtain ⟨ae, ce, rfl, _⟩ := rowShape h.e
  obtain ⟨ak, ck, rfl, _⟩ := rowShape h.k
  obtain ⟨az, cz, rfl, _⟩ := rowShape h.s
  clear h B hlf
  generalize n.es.length = n1 at *
  generalize n.ks.length = n2 at *
  generalize n.ss.length = n3 at *
  go_enter Try.func16, Try.ntmps16
  go_upto_region 1 with fail
  generalize w.alloc (.cells #[.bool lf, .slice ae n1 ce, .slice ak n2 ck, .slice az n3 cz] 26) = W at *
  go_wp2_with fail
  refine Calls.mono CR.out ?_
  rintro e w1 ⟨rfl, b1⟩
  have B1 : Hid (Below W.heap.size W w1) := b1
  clear b1 CR
  go_wp2
  go_ret3
  exact ⟨rfl, HB.out.trans (B1.out.mono HB.out.size)⟩

set_option maxHeartbeats 4000000 in
set_option maxRecDepth 100000 in
theorem encode_long (n : Nd) (ve vk vs : Value) (w : World) (h : NdR w ve vk vs n) (hs : Sm n) (hr : rtN n = true) (h2 : ¬ szN n ≤ 240) :
    Calls Try.prog 16 #[.agg #[.bool n.leaf, ve, vk, vs]] w fun e w' => e = .returned (.tuple #[.int .u8 0, .string ⟨#[]⟩, .int .i64 50]) ∧ Below w.heap.size w w' := by
  obtain ⟨lf, hlf⟩ : ∃ x, n.leaf = x := ⟨_, rfl⟩
  obtain ⟨B, c0, c1, c2, c3, hlt⟩ := ndCl w lf ve vk vs 26
  have HR : Aside (NdR (w.alloc (.cells #[.bool lf, ve, vk, vs] 26)) ve vk vs n) := h.below B
  have CR : Hid _ := nright_any n ve vk vs _ HR.out hs
  have HB : Hid _ := B
  rw [hlf] at CR ⊢
  have HL : Hid (n.leaf = lf) := hlf
  obtain ⟨z, hz⟩ : ∃ z, szN n = z := ⟨_, rfl⟩
  rw [hz] at h2
  have HZ : Hid (szN n = z) := hz
  rw [hr] at CR
  clear hz
  have hzz : (240 : Int) < (z : Int) := by omega
  clear hr h2
  obtain ⟨ae, ce, rfl, _⟩ := rowShape h.e
  obtain ⟨ak, ck, rfl, _⟩ := rowShape h.k
  obtain ⟨az, cz, rfl, _⟩ := rowShape h.s
  clear h B hlf
  generalize n.es.length = n1 at *
  generalize n.ks.length = n2 at *
  generalize n.ss.length = n3 at *
  go_enter Try.func16, Try.ntmps16
  go_upto_region 1 with fail
  generalize w.alloc (.cells #[.bool lf, .slice ae n1 ce, .slice ak n2 ck, .slice az n3 cz] 26) = W at *
  go_wp2_with fail
  refine Calls.mono CR.out ?_
  rintro e w1 ⟨rfl, b1⟩
  have B1 : Hid (Below W.heap.size W w1) := b1
  have CZ : Hid _ := nsize_any n _ _ _ w1 (HR.out.below b1) hs
  rw [HL.out, HZ.out] at CZ
  have w1c0 : w1.cell? ⟨w.heap.size, 0, none⟩ = some (.bool lf) := (b1.cell (p := ⟨w.heap.size, 0, none⟩) hlt).trans c0
  have w1c1 : w1.cell? ⟨w.heap.size, 1, none⟩ = some (.slice ae n1 ce) := (b1.cell (p := ⟨w.heap.size, 1, none⟩) hlt).trans c1
  have w1c2 : w1.cell? ⟨w.heap.size, 2, none⟩ = some (.slice ak n2 ck) := (b1.cell (p := ⟨w.heap.size, 2, none⟩) hlt).trans c2
  have w1c3 : w1.cell? ⟨w.heap.size, 3, none⟩ = some (.slice az n3 cz) := (b1.cell (p := ⟨w.heap.size, 3, none⟩) hlt).trans c3
  have ltw1 : w.heap.size < w1.heap.size := Nat.lt_of_lt_of_le hlt b1.size
  clear b1 CR
  go_wp2_with fail
  refine Calls.mono CZ.out ?_
  rintro e w2 ⟨rfl, b2⟩
  have B2 : Hid (Below W.heap.size W w2) := B1.out.trans (b2.mono B1.out.size)
  clear b2 CZ
  go_wp2
  go_ret3
  exact ⟨rfl, HB.out.trans (B2.out.mono HB.out.size)⟩

set_option maxHeartbeats 4000000 in
set_option maxRecDepth 100000 in
theorem encode_leaf (n : Nd) (ve vk vs : Value) (w : World) (h : NdR w ve vk vs n) (hs : Sm n) (hr : rtN n = true) (h2 : szN n ≤ 240) (hl : n.leaf = true) :
    Calls Try.prog 16 #[.agg #[.bool n.leaf, ve, vk, vs]] w fun e w' => e = .returned (.tuple #[.int .u8 1, .string ⟨(bdN n).toArray⟩, .int .i64 0]) ∧ Below w.heap.size w w' := by
  obtain ⟨B, c0, c1, c2, c3, hlt⟩ := ndCl w true ve vk vs 26
  have HR : Aside (NdR (w.alloc (.cells #[.bool true, ve, vk, vs] 26)) ve vk vs n) := h.below B
  have CR : Hid _ := nright_any n ve vk vs _ HR.out hs
  have HB : Hid _ := B
  obtain ⟨bd, hbd⟩ : ∃ x : ByteArray, (⟨(bdN n).toArray⟩ : ByteArray) = x := ⟨_, rfl⟩
  rw [hbd]
  rw [hl] at CR ⊢
  have HL : Hid (n.leaf = true) := hl
  have EE : Hid (ecE n.es = 0 ∧ ecS n.es = bd) := by
    obtain ⟨_, _, hg⟩ := (rtN_leaf hl).1 hr
    unfold ecE ecS
    rw [rgB_of hg, ← hbd, bdN_leaf hl]
    exact ⟨rfl, rfl⟩
  obtain ⟨z, hz⟩ : ∃ z, szN n = z := ⟨_, rfl⟩
  rw [hz] at h2
  have HZ : Hid (szN n = z) := hz
  rw [hr] at CR
  clear hz
  have hzz : ¬ (240 : Int) < (z : Int) := by omega
  clear hr h2 hl hbd
  obtain ⟨ae, ce, rfl, _⟩ := rowShape h.e
  obtain ⟨ak, ck, rfl, _⟩ := rowShape h.k
  obtain ⟨az, cz, rfl, _⟩ := rowShape h.s
  clear h B
  generalize n.es.length = n1 at *
  generalize n.ks.length = n2 at *
  generalize n.ss.length = n3 at *
  go_enter Try.func16, Try.ntmps16
  go_upto_region 1 with fail
  generalize w.alloc (.cells #[.bool true, .slice ae n1 ce, .slice ak n2 ck, .slice az n3 cz] 26) = W at *
  go_wp2_with fail
  refine Calls.mono CR.out ?_
  rintro e w1 ⟨rfl, b1⟩
  have B1 : Hid (Below W.heap.size W w1) := b1
  have CZ : Hid _ := nsize_any n _ _ _ w1 (HR.out.below b1) hs
  rw [HL.out, HZ.out] at CZ
  have w1c0 : w1.cell? ⟨w.heap.size, 0, none⟩ = some (.bool true) := (b1.cell (p := ⟨w.heap.size, 0, none⟩) hlt).trans c0
  have w1c1 : w1.cell? ⟨w.heap.size, 1, none⟩ = some (.slice ae n1 ce) := (b1.cell (p := ⟨w.heap.size, 1, none⟩) hlt).trans c1
  have w1c2 : w1.cell? ⟨w.heap.size, 2, none⟩ = some (.slice ak n2 ck) := (b1.cell (p := ⟨w.heap.size, 2, none⟩) hlt).trans c2
  have w1c3 : w1.cell? ⟨w.heap.size, 3, none⟩ = some (.slice az n3 cz) := (b1.cell (p := ⟨w.heap.size, 3, none⟩) hlt).trans c3
  have ltw1 : w.heap.size < w1.heap.size := Nat.lt_of_lt_of_le hlt b1.size
  clear b1 CR
  go_wp2_with fail
  refine Calls.mono CZ.out ?_
  rintro e w2 ⟨rfl, b2⟩
  have B2 : Hid (Below W.heap.size W w2) := B1.out.trans (b2.mono B1.out.size)
  have CE : Hid _ := encode_any _ n.es w2 (HR.out.e.below B2.out) (by have := hs.e; omega)
  rw [EE.out.1, EE.out.2] at CE
  have w2c0 : w2.cell? ⟨w.heap.size, 0, none⟩ = some (.bool true) := (b2.cell (p := ⟨w.heap.size, 0, none⟩) ltw1).trans w1c0
  have w2c1 : w2.cell? ⟨w.heap.size, 1, none⟩ = some (.slice ae n1 ce) := (b2.cell (p := ⟨w.heap.size, 1, none⟩) ltw1).trans w1c1
  have w2c2 : w2.cell? ⟨w.heap.size, 2, none⟩ = some (.slice ak n2 ck) := (b2.cell (p := ⟨w.heap.size, 2, none⟩) ltw1).trans w1c2
  have w2c3 : w2.cell? ⟨w.heap.size, 3, none⟩ = some (.slice az n3 cz) := (b2.cell (p := ⟨w.heap.size, 3, none⟩) ltw1).trans w1c3
  have ltw2 : w.heap.size < w2.heap.size := Nat.lt_of_lt_of_le ltw1 b2.size
  clear b2 CZ
  go_wp2_with fail
  refine Calls.mono CE.out ?_
  rintro e w3 ⟨rfl, b3⟩
  have B3 : Hid (Below W.heap.size W w3) := B2.out.trans (b3.mono B2.out.size)
  clear b3 CE
  go_wp2
  go_ret3
  exact ⟨rfl, HB.out.trans (B3.out.mono HB.out.size)⟩

set_option maxHeartbeats 4000000 in
set_option maxRecDepth 100000 in
theorem encode_inner (n : Nd) (ve vk vs : Value) (w : World) (h : NdR w ve vk vs n) (hs : Sm n) (hr : rtN n = true) (h2 : szN n ≤ 240) (hl : n.leaf = false) :
    Calls Try.prog 16 #[.agg #[.bool n.leaf, ve, vk, vs]] w fun e w' => e = .returned (.tuple #[.int .u8 2, .string ⟨(bdN n).toArray⟩, .int .i64 0]) ∧ Below w.heap.size w w' := by
  obtain ⟨B, c0, c1, c2, c3, hlt⟩ := ndCl w false ve vk vs 26
  have HR : Aside (NdR (w.alloc (.cells #[.bool false, ve, vk, vs] 26)) ve vk vs n) := h.below B
  have CR : Hid _ := nright_any n ve vk vs _ HR.out hs
  have HB : Hid _ := B
  obtain ⟨bd, hbd⟩ : ∃ x : ByteArray, (⟨(bdN n).toArray⟩ : ByteArray) = x := ⟨_, rfl⟩
  rw [hbd]
  rw [hl] at CR ⊢
  have HL : Hid (n.leaf = false) := hl
  have IB : Hid (∀ ve vk vs W', NdR W' ve vk vs n → Calls Try.prog 37 #[.agg #[.bool false, ve, vk, vs]] W' fun e w' => e = .returned (.string bd) ∧ Below W'.heap.size W' w') := by
    intro ve vk vs W' hW
    obtain ⟨k0, ps, rfl, a, b, c⟩ := rtN_pairs hr hl
    rw [← hbd, bdN_in]
    exact innerBody_any k0 ps ve vk vs W' hW hs a b c
  obtain ⟨z, hz⟩ : ∃ z, szN n = z := ⟨_, rfl⟩
  rw [hz] at h2
  have HZ : Hid (szN n = z) := hz
  rw [hr] at CR
  clear hz
  have hzz : ¬ (240 : Int) < (z : Int) := by omega
  clear hr h2 hl hbd
  obtain ⟨ae, ce, rfl, _⟩ := rowShape h.e
  obtain ⟨ak, ck, rfl, _⟩ := rowShape h.k
  obtain ⟨az, cz, rfl, _⟩ := rowShape h.s
  clear h B
  generalize n.es.length = n1 at *
  generalize n.ks.length = n2 at *
  generalize n.ss.length = n3 at *
  go_enter Try.func16, Try.ntmps16
  go_upto_region 1 with fail
  generalize w.alloc (.cells #[.bool false, .slice ae n1 ce, .slice ak n2 ck, .slice az n3 cz] 26) = W at *
  go_wp2_with fail
  refine Calls.mono CR.out ?_
  rintro e w1 ⟨rfl, b1⟩
  have B1 : Hid (Below W.heap.size W w1) := b1
  have CZ : Hid _ := nsize_any n _ _ _ w1 (HR.out.below b1) hs
  rw [HL.out, HZ.out] at CZ
  have w1c0 : w1.cell? ⟨w.heap.size, 0, none⟩ = some (.bool false) := (b1.cell (p := ⟨w.heap.size, 0, none⟩) hlt).trans c0
  have w1c1 : w1.cell? ⟨w.heap.size, 1, none⟩ = some (.slice ae n1 ce) := (b1.cell (p := ⟨w.heap.size, 1, none⟩) hlt).trans c1
  have w1c2 : w1.cell? ⟨w.heap.size, 2, none⟩ = some (.slice ak n2 ck) := (b1.cell (p := ⟨w.heap.size, 2, none⟩) hlt).trans c2
  have w1c3 : w1.cell? ⟨w.heap.size, 3, none⟩ = some (.slice az n3 cz) := (b1.cell (p := ⟨w.heap.size, 3, none⟩) hlt).trans c3
  have ltw1 : w.heap.size < w1.heap.size := Nat.lt_of_lt_of_le hlt b1.size
  clear b1 CR
  go_wp2_with fail
  refine Calls.mono CZ.out ?_
  rintro e w2 ⟨rfl, b2⟩
  have B2 : Hid (Below W.heap.size W w2) := B1.out.trans (b2.mono B1.out.size)
  have CE : Hid _ := IB.out _ _ _ w2 (HR.out.below B2.out)
  have w2c0 : w2.cell? ⟨w.heap.size, 0, none⟩ = some (.bool false) := (b2.cell (p := ⟨w.heap.size, 0, none⟩) ltw1).trans w1c0
  have w2c1 : w2.cell? ⟨w.heap.size, 1, none⟩ = some (.slice ae n1 ce) := (b2.cell (p := ⟨w.heap.size, 1, none⟩) ltw1).trans w1c1
  have w2c2 : w2.cell? ⟨w.heap.size, 2, none⟩ = some (.slice ak n2 ck) := (b2.cell (p := ⟨w.heap.size, 2, none⟩) ltw1).trans w1c2
  have w2c3 : w2.cell? ⟨w.heap.size, 3, none⟩ = some (.slice az n3 cz) := (b2.cell (p := ⟨w.heap.size, 3, none⟩) ltw1).trans w1c3
  have ltw2 : w.heap.size < w2.heap.size := Nat.lt_of_lt_of_le ltw1 b2.size
  clear b2 CZ IB
  go_wp2_with fail
  refine Calls.mono CE.out ?_
  rintro e w3 ⟨rfl, b3⟩
  have B3 : Hid (Below W.heap.size W w3) := B2.out.trans (b3.mono B2.out.size)
  clear b3 CE
  go_wp2
  go_ret3
  exact ⟨rfl, HB.out.trans (B3.out.mono HB.out.size)⟩

theorem nencode_any (n : Nd) (ve vk vs : Value) (w : World) (h : NdR w ve vk vs n) (hs : Sm n) :
    Calls Try.prog 16 #[.agg #[.bool n.leaf, ve, vk, vs]] w fun e w' => e = .returned (.tuple #[.int .u8 (enK n), .string (enS n), .int .i64 (enE2 n)]) ∧ Below w.heap.size w w' := by
  cases hr : rtN n with
  | false =>
    obtain ⟨a, b, c⟩ := en_no hr
    rw [a, b, c]
    exact encode_no n ve vk vs w h hs hr
  | true =>
    by_cases h2 : szN n ≤ 240
    · obtain ⟨a, b, c⟩ := en_yes hr h2
      rw [a, b, c]
      cases hl : n.leaf with
      | true =>
        have ek : kdN n = 1 := by unfold kdN; rw [hl]; rfl
        rw [ek, ← hl]
        exact encode_leaf n ve vk vs w h hs hr h2 hl
      | false =>
        have ek : kdN n = 2 := by unfold kdN; rw [hl]; rfl
        rw [ek, ← hl]
        exact encode_inner n ve vk vs w h hs hr h2 hl
    · obtain ⟨a, b, c⟩ := en_long hr h2
      rw [a, b, c]
      exact encode_long n ve vk vs w h hs hr h2

end Go.Proofs.Ytmamnlphhiaeoaa

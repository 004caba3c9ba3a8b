/-
  The walks of package node's Right, Size and Fits, and of the document's Right and Size.
-/
import Derived.Test.YtmamnlphhiaeoaaNdRight
import Derived.Test.YtmamnlphhiaeoaaEnRef
namespace Go.Proofs.Ytmamnlphhiaeoaa
open Go.Shelf Go.RowKit Go.Lib Go.Sort

/-- The block that holds a parameter. -/
theorem ndCl (w : World) (lf : Bool) (ve vk vs : Value) (t : TypeId) : Below w.heap.size w (w.alloc (.cells #[.bool lf, ve, vk, vs] t)) ∧ (w.alloc (.cells #[.bool lf, ve, vk, vs] t)).cell? ⟨w.heap.size, 0, none⟩ = some (.bool lf) ∧ (w.alloc (.cells #[.bool lf, ve, vk, vs] t)).cell? ⟨w.heap.size, 1, none⟩ = some ve ∧ (w.alloc (.cells #[.bool lf, ve, vk, vs] t)).cell? ⟨w.heap.size, 2, none⟩ = some vk ∧ (w.alloc (.cells #[.bool lf, ve, vk, vs] t)).cell? ⟨w.heap.size, 3, none⟩ = some vs ∧ w.heap.size < (w.alloc (.cells #[.bool lf, ve, vk, vs] t)).heap.size := by
  obtain ⟨a, b, c, d⟩ := (Cl.new w #[.bool lf, ve, vk, vs] t).four
  exact ⟨(Below.refl _ w).alloc (Nat.le_refl _) _, a, b, c, d, by simp⟩

set_option maxHeartbeats 4000000 in
set_option maxRecDepth 100000 in
theorem nright_any (n : Nd) (ve vk vs : Value) (w : World) (h : NdR w ve vk vs n) (hs : Sm n) :
    Calls Try.prog 13 #[.agg #[.bool n.leaf, ve, vk, vs]] w fun e w' => e = .returned (.bool (rtN n)) ∧ Below w.heap.size w w' := by
  obtain ⟨lf, es, ks, ss⟩ := n
  obtain ⟨he, hk, hss⟩ := h
  obtain ⟨s1, s2, s3, s4, s5⟩ := hs
  simp only at he hk hss s1 s2 s3 s4 s5
  obtain ⟨B, c0, c1, c2, c3, hlt⟩ := ndCl w lf ve vk vs 26
  have CE : Hid _ := rightEntries_any ve es _ (he.below B) (by omega)
  have CK : Hid _ := rightKids_any vk ks _ (hk.below B) (by omega)
  have CS : Hid _ := rightKeys_any vs ss _ (hss.below B) (by omega)
  obtain ⟨ae, ce, rfl, _⟩ := rowShape he
  obtain ⟨ak, ck, rfl, _⟩ := rowShape hk
  obtain ⟨az, cz, rfl, _⟩ := rowShape hss
  have HB : Hid _ := B
  clear he hk hss B
  cases lf with
  | true =>
    by_cases k1 : ks.length = 0
    · by_cases k2 : ss.length = 0
      ·
        have z1 : ((ks.length : Int) == 0) = true := by rw [beq_iff_eq]; omega
        have z2 : ((ss.length : Int) == 0) = true := by rw [beq_iff_eq]; omega
        have E : Hid (rtN ⟨true, es, ks, ss⟩ = rgB es) := by
          show _ = _
          unfold rtN
          rw [if_pos rfl, decide_eq_true k1, decide_eq_true k2]; simp
        clear k1 k2
        go_enter Try.func13, Try.ntmps13
        go_upto_region 1 with fail
        generalize w.alloc (.cells #[.bool true, .slice ae es.length ce, .slice ak ks.length ck, .slice az ss.length cz] 26) = W at *
        go_wp2_with (go_at_call 32; refine Calls.mono CE.out ?_; rintro e w1 ⟨rfl, hb⟩)
        go_ret
        exact ⟨ret_b E.out.symm, HB.out.trans (hb.mono HB.out.size)⟩
      ·
        have z1 : ((ks.length : Int) == 0) = true := by rw [beq_iff_eq]; omega
        have z2 : ((ss.length : Int) == 0) = false := by rw [beq_eq_false_iff_ne]; omega
        have E : Hid (rtN ⟨true, es, ks, ss⟩ = false) := by
          show _ = _
          unfold rtN
          rw [if_pos rfl, decide_eq_true k1, decide_eq_false k2]; simp
        clear k1 k2
        go_enter Try.func13, Try.ntmps13
        go_upto_region 1 with fail
        generalize w.alloc (.cells #[.bool true, .slice ae es.length ce, .slice ak ks.length ck, .slice az ss.length cz] 26) = W at *
        go_wp2_with (fail)
        go_ret
        exact ⟨ret_b E.out.symm, HB.out⟩
    ·
      have z1 : ((ks.length : Int) == 0) = false := by rw [beq_eq_false_iff_ne]; omega
      have E : Hid (rtN ⟨true, es, ks, ss⟩ = false) := by
        show _ = _
        unfold rtN
        rw [if_pos rfl, decide_eq_false k1]; simp
      clear k1
      go_enter Try.func13, Try.ntmps13
      go_upto_region 1 with fail
      generalize w.alloc (.cells #[.bool true, .slice ae es.length ce, .slice ak ks.length ck, .slice az ss.length cz] 26) = W at *
      go_wp2_with (fail)
      go_ret
      exact ⟨ret_b E.out.symm, HB.out⟩
  | false =>
    by_cases k1 : es.length = 0
    · by_cases k2 : 0 < ks.length
      · have k2z : (0 : Int) < (ks.length : Int) := by omega
        by_cases k3 : ss.length + 1 = ks.length
        · have z3 : ((ss.length : Int) == (ks.length : Int) - 1) = true := by rw [beq_iff_eq]; omega
          cases hr : ksB ks with
          | false =>
            rw [hr] at CK
            have z1 : ((es.length : Int) == 0) = true := by rw [beq_iff_eq]; omega
            have E : Hid (rtN ⟨false, es, ks, ss⟩ = false) := by
              show _ = _
              unfold rtN
              rw [if_neg (by simp), decide_eq_true k1, decide_eq_true k2, decide_eq_true k3, hr]; simp
            clear k1 k3 hr
            go_enter Try.func13, Try.ntmps13
            go_upto_region 1 with fail
            generalize w.alloc (.cells #[.bool false, .slice ae es.length ce, .slice ak ks.length ck, .slice az ss.length cz] 26) = W at *
            go_wp2_with (first | (go_at_call 33; refine Calls.mono CK.out ?_; rintro e w1 ⟨rfl, rfl⟩) | (go_at_call 34; refine Calls.mono CS.out ?_; rintro e w1 ⟨rfl, hb⟩))
            go_ret
            exact ⟨ret_b E.out.symm, HB.out⟩
          | true =>
            rw [hr] at CK
            have z1 : ((es.length : Int) == 0) = true := by rw [beq_iff_eq]; omega
            have E : Hid (rtN ⟨false, es, ks, ss⟩ = kyB ss) := by
              show _ = _
              unfold rtN
              rw [if_neg (by simp), decide_eq_true k1, decide_eq_true k2, decide_eq_true k3, hr]; simp
            clear k1 k3 hr
            go_enter Try.func13, Try.ntmps13
            go_upto_region 1 with fail
            generalize w.alloc (.cells #[.bool false, .slice ae es.length ce, .slice ak ks.length ck, .slice az ss.length cz] 26) = W at *
            go_wp2_with (first | (go_at_call 33; refine Calls.mono CK.out ?_; rintro e w1 ⟨rfl, rfl⟩) | (go_at_call 34; refine Calls.mono CS.out ?_; rintro e w1 ⟨rfl, hb⟩))
            go_ret
            exact ⟨ret_b E.out.symm, HB.out.trans (hb.mono HB.out.size)⟩
        · have z3 : ((ss.length : Int) == (ks.length : Int) - 1) = false := by rw [beq_eq_false_iff_ne]; omega
          have z1 : ((es.length : Int) == 0) = true := by rw [beq_iff_eq]; omega
          have E : Hid (rtN ⟨false, es, ks, ss⟩ = false) := by
            show _ = _
            unfold rtN
            rw [if_neg (by simp), decide_eq_true k1, decide_eq_true k2, decide_eq_false k3]; simp
          clear k1 k3
          go_enter Try.func13, Try.ntmps13
          go_upto_region 1 with fail
          generalize w.alloc (.cells #[.bool false, .slice ae es.length ce, .slice ak ks.length ck, .slice az ss.length cz] 26) = W at *
          go_wp2_with (fail)
          go_ret
          exact ⟨ret_b E.out.symm, HB.out⟩
      · have k2z : ¬ (0 : Int) < (ks.length : Int) := by omega
        have z1 : ((es.length : Int) == 0) = true := by rw [beq_iff_eq]; omega
        have E : Hid (rtN ⟨false, es, ks, ss⟩ = false) := by
          show _ = _
          unfold rtN
          rw [if_neg (by simp), decide_eq_true k1, decide_eq_false k2]; simp
        clear k1
        go_enter Try.func13, Try.ntmps13
        go_upto_region 1 with fail
        generalize w.alloc (.cells #[.bool false, .slice ae es.length ce, .slice ak ks.length ck, .slice az ss.length cz] 26) = W at *
        go_wp2_with (fail)
        go_ret
        exact ⟨ret_b E.out.symm, HB.out⟩
    ·
      have z1 : ((es.length : Int) == 0) = false := by rw [beq_eq_false_iff_ne]; omega
      have E : Hid (rtN ⟨false, es, ks, ss⟩ = false) := by
        show _ = _
        unfold rtN
        rw [if_neg (by simp), decide_eq_false k1]; simp
      clear k1
      go_enter Try.func13, Try.ntmps13
      go_upto_region 1 with fail
      generalize w.alloc (.cells #[.bool false, .slice ae es.length ce, .slice ak ks.length ck, .slice az ss.length cz] 26) = W at *
      go_wp2_with (fail)
      go_ret
      exact ⟨ret_b E.out.symm, HB.out⟩

set_option maxHeartbeats 4000000 in
set_option maxRecDepth 100000 in
theorem nsize_any (n : Nd) (ve vk vs : Value) (w : World) (h : NdR w ve vk vs n) (hs : Sm n) :
    Calls Try.prog 14 #[.agg #[.bool n.leaf, ve, vk, vs]] w fun e w' => e = .returned (.int .i64 (szN n)) ∧ Below w.heap.size w w' := by
  obtain ⟨lf, es, ks, ss⟩ := n
  obtain ⟨he, hk, hss⟩ := h
  obtain ⟨s1, s2, s3, s4, s5⟩ := hs
  simp only at he hk hss s1 s2 s3 s4 s5
  obtain ⟨B, c0, c1, c2, c3, hlt⟩ := ndCl w lf ve vk vs 26
  have CE : Hid _ := size_any ve es _ (he.below B) (by omega) (by omega)
  have RS0 := hss.below B
  obtain ⟨ae, ce, rfl, _⟩ := rowShape he
  obtain ⟨ak, ck, rfl, _⟩ := rowShape hk
  obtain ⟨az, cz, rfl, _⟩ := rowShape hss
  have HB : Hid _ := B
  clear he hk hss
  cases lf with
  | true =>
    have E : Hid (szN ⟨true, es, ks, ss⟩ = szL es) := by show _ = _; unfold szN; rw [if_pos rfl]
    clear RS0
    go_enter Try.func14, Try.ntmps14
    go_upto_region 1 with fail
    generalize w.alloc (.cells #[.bool true, .slice ae es.length ce, .slice ak ks.length ck, .slice az ss.length cz] 26) = W at *
    go_wp2_with (go_at_call 35; refine Calls.mono CE.out ?_; rintro e w1 ⟨rfl, hb⟩)
    go_ret
    exact ⟨ret_i (by rw [E.out]), HB.out.trans (hb.mono HB.out.size)⟩
  | false =>
    have E : Hid (szN ⟨false, es, ks, ss⟩ = 4 + szK ss) := by show _ = _; unfold szN; rw [if_neg (by simp)]
    obtain ⟨az1, cz1, e1, h1, h2, h3⟩ := RS0
    cases e1
    have H3 : Aside (ss ≠ [] → ∃ b off, az = some ⟨b, off, none⟩ ∧ b < (w.alloc (.cells #[.bool false, .slice ae es.length ce, .slice ak ks.length ck, .slice az ss.length cz] 26)).heap.size ∧ CellsK encS 1 (w.alloc (.cells #[.bool false, .slice ae es.length ce, .slice ak ks.length ck, .slice az ss.length cz] 26)) b off ss) := h3
    clear h3 CE B
    go_enter Try.func14, Try.ntmps14
    go_upto_region 1 with fail
    generalize w.alloc (.cells #[.bool false, .slice ae es.length ce, .slice ak ks.length ck, .slice az ss.length cz] 26) = W at *
    go_wp2
    go_loopg [3, 14] ss.length (fun kx s3 s14 wr => ∃ (i m : Nat), s3 = .int .i64 m ∧ s14 = .int .i64 i ∧ i ≤ ss.length ∧ ss.length - i ≤ kx ∧ Hid (4 + szK (ss.take i) = m) ∧ W = wr)
    case atStart => exact ⟨0, 4, rfl, rfl, Nat.zero_le _, Nat.le_refl _, rfl, rfl⟩
    case round =>
      obtain ⟨i, m, rfl, rfl, hi, hki, HS, rfl⟩ := hrel
      by_cases hil : i < ss.length
      · have hilz : (i : Int) < (ss.length : Int) := by omega
        obtain ⟨b, off, rfl, hb, x1⟩ := rowS_at H3.out i hil (Below.refl _ W)
        have T : Hid (szK (ss.take (i + 1)) = szK (ss.take i) + (5 + ss[i]!.size)) := szK_snoc hil
        have hle : szK (ss.take (i + 1)) ≤ szK ss := szK_take_le _ _
        rw [T.out] at hle
        generalize ss[i]! = x at *
        have hm := HS.out
        have hx : m + 5 + x.size ≤ 1000004 := by omega
        have T2 : Hid (4 + szK (ss.take (i + 1)) = m + 5 + x.size) := by show _ = _; rw [T.out]; omega
        clear hle HS hm
        go_wp2
        go_roundg (ss.length - (i + 1))
        case measure => omega
        case rel => exact ⟨i + 1, m + 5 + x.size, by go_num, by go_num, by omega, Nat.le_refl _, T2, rfl⟩
      · have hilz : ¬ (i : Int) < (ss.length : Int) := by omega
        obtain rfl : i = ss.length := by omega
        rw [List.take_length] at HS
        go_wp2
        go_ret
        exact ⟨ret_i (by rw [E.out, HS.out]), HB.out⟩

set_option maxHeartbeats 4000000 in
set_option maxRecDepth 100000 in
theorem rnsize_any (n : Nd) (ve vk vs : Value) (w : World) (h : NdR w ve vk vs n) (hs : Sm n) :
    Calls Try.prog 12 #[.agg #[.bool n.leaf, ve, vk, vs]] w fun e w' => e = .returned (.int .i64 (szN n)) ∧ Below w.heap.size w w' := by
  obtain ⟨lf, es, ks, ss⟩ := n
  obtain ⟨he, hk, hss⟩ := h
  obtain ⟨s1, s2, s3, s4, s5⟩ := hs
  simp only at he hk hss s1 s2 s3 s4 s5
  obtain ⟨B, c0, c1, c2, c3, hlt⟩ := ndCl w lf ve vk vs 30
  have CE : Hid _ := rsize_any ve es _ (he.below B) (by omega) (by omega)
  have RS0 := hss.below B
  obtain ⟨ae, ce, rfl, _⟩ := rowShape he
  obtain ⟨ak, ck, rfl, _⟩ := rowShape hk
  obtain ⟨az, cz, rfl, _⟩ := rowShape hss
  have HB : Hid _ := B
  clear he hk hss
  cases lf with
  | true =>
    have E : Hid (szN ⟨true, es, ks, ss⟩ = szL es) := by show _ = _; unfold szN; rw [if_pos rfl]
    clear RS0
    go_enter Try.func12, Try.ntmps12
    go_upto_region 1 with fail
    generalize w.alloc (.cells #[.bool true, .slice ae es.length ce, .slice ak ks.length ck, .slice az ss.length cz] 30) = W at *
    go_wp2_with (go_at_call 31; refine Calls.mono CE.out ?_; rintro e w1 ⟨rfl, hb⟩)
    go_ret
    exact ⟨ret_i (by rw [E.out]), HB.out.trans (hb.mono HB.out.size)⟩
  | false =>
    have E : Hid (szN ⟨false, es, ks, ss⟩ = 4 + szK ss) := by show _ = _; unfold szN; rw [if_neg (by simp)]
    obtain ⟨az1, cz1, e1, h1, h2, h3⟩ := RS0
    cases e1
    have H3 : Aside (ss ≠ [] → ∃ b off, az = some ⟨b, off, none⟩ ∧ b < (w.alloc (.cells #[.bool false, .slice ae es.length ce, .slice ak ks.length ck, .slice az ss.length cz] 30)).heap.size ∧ CellsK encS 1 (w.alloc (.cells #[.bool false, .slice ae es.length ce, .slice ak ks.length ck, .slice az ss.length cz] 30)) b off ss) := h3
    clear h3 CE B
    go_enter Try.func12, Try.ntmps12
    go_upto_region 1 with fail
    generalize w.alloc (.cells #[.bool false, .slice ae es.length ce, .slice ak ks.length ck, .slice az ss.length cz] 30) = W at *
    go_wp2
    go_loopg [3, 4] ss.length (fun kx s3 s4 wr => ∃ (i m : Nat), s3 = .int .i64 m ∧ s4 = .int .i64 i ∧ i ≤ ss.length ∧ ss.length - i ≤ kx ∧ Hid (4 + szK (ss.take i) = m) ∧ W = wr)
    case atStart => exact ⟨0, 4, rfl, rfl, Nat.zero_le _, Nat.le_refl _, rfl, rfl⟩
    case round =>
      obtain ⟨i, m, rfl, rfl, hi, hki, HS, rfl⟩ := hrel
      by_cases hil : i < ss.length
      · have hilz : (i : Int) < (ss.length : Int) := by omega
        obtain ⟨b, off, rfl, hb, x1⟩ := rowS_at H3.out i hil (Below.refl _ W)
        have T : Hid (szK (ss.take (i + 1)) = szK (ss.take i) + (5 + ss[i]!.size)) := szK_snoc hil
        have hle : szK (ss.take (i + 1)) ≤ szK ss := szK_take_le _ _
        rw [T.out] at hle
        generalize ss[i]! = x at *
        have hm := HS.out
        have hx : m + 5 + x.size ≤ 1000004 := by omega
        have T2 : Hid (4 + szK (ss.take (i + 1)) = m + 5 + x.size) := by show _ = _; rw [T.out]; omega
        clear hle HS hm
        go_wp2
        go_roundg (ss.length - (i + 1))
        case measure => omega
        case rel => exact ⟨i + 1, m + 5 + x.size, by go_num, by go_num, by omega, Nat.le_refl _, T2, rfl⟩
      · have hilz : ¬ (i : Int) < (ss.length : Int) := by omega
        obtain rfl : i = ss.length := by omega
        rw [List.take_length] at HS
        go_wp2
        go_ret
        exact ⟨ret_i (by rw [E.out, HS.out]), HB.out⟩

set_option maxHeartbeats 4000000 in
set_option maxRecDepth 100000 in
theorem fits_any (n : Nd) (ve vk vs : Value) (w : World) (h : NdR w ve vk vs n) (hs : Sm n) :
    Calls Try.prog 15 #[.agg #[.bool n.leaf, ve, vk, vs]] w fun e w' => e = .returned (.bool (fiN n)) ∧ Below w.heap.size w w' := by
  obtain ⟨B, c0, c1, c2, c3, hlt⟩ := ndCl w n.leaf ve vk vs 26
  have H : Aside (NdR (w.alloc (.cells #[.bool n.leaf, ve, vk, vs] 26)) ve vk vs n) := h.below B
  have CR : Hid _ := nright_any n ve vk vs _ H.out hs
  obtain ⟨ae, ce, rfl, _⟩ := rowShape h.e
  obtain ⟨ak, ck, rfl, _⟩ := rowShape h.k
  obtain ⟨az, cz, rfl, _⟩ := rowShape h.s
  have HB : Hid _ := B
  obtain ⟨lf, hlf⟩ : ∃ x, n.leaf = x := ⟨_, rfl⟩
  have HL : Hid (n.leaf = lf) := hlf
  rw [hlf] at CR HB H c0 c1 c2 c3 hlt ⊢
  unfold fiN
  clear h hlf B
  cases hr : rtN n with
  | false =>
    rw [hr] at CR
    clear hr H
    go_enter Try.func15, Try.ntmps15
    go_upto_region 1 with fail
    generalize w.alloc (.cells #[.bool lf, .slice ae n.es.length ce, .slice ak n.ks.length ck, .slice az n.ss.length cz] 26) = W at *
    go_wp2_with (go_at_call 13; refine Calls.mono CR.out ?_; rintro e w1 ⟨rfl, hb⟩)
    go_ret
    exact ⟨rfl, HB.out.trans (hb.mono HB.out.size)⟩
  | true =>
    rw [hr] at CR
    obtain ⟨z, hz⟩ : ∃ z, szN n = z := ⟨_, rfl⟩
    rw [hz]
    have HZ : Hid (szN n = z) := hz
    clear hr hz
    go_enter Try.func15, Try.ntmps15
    go_upto_region 1 with fail
    generalize w.alloc (.cells #[.bool lf, .slice ae n.es.length ce, .slice ak n.ks.length ck, .slice az n.ss.length cz] 26) = W at *
    go_wp2_with fail
    refine Calls.mono CR.out ?_
    rintro e w1 ⟨rfl, hb⟩
    have B1 : Hid (Below W.heap.size W w1) := hb
    have CZ : Hid _ := nsize_any n _ _ _ w1 (H.out.below hb) hs
    rw [HL.out] at CZ
    have e0 : w1.cell? ⟨w.heap.size, 0, none⟩ = some (.bool lf) := (hb.cell (p := ⟨w.heap.size, 0, none⟩) hlt).trans c0
    have e1 : w1.cell? ⟨w.heap.size, 1, none⟩ = some (.slice ae n.es.length ce) := (hb.cell (p := ⟨w.heap.size, 1, none⟩) hlt).trans c1
    have e2 : w1.cell? ⟨w.heap.size, 2, none⟩ = some (.slice ak n.ks.length ck) := (hb.cell (p := ⟨w.heap.size, 2, none⟩) hlt).trans c2
    have e3 : w1.cell? ⟨w.heap.size, 3, none⟩ = some (.slice az n.ss.length cz) := (hb.cell (p := ⟨w.heap.size, 3, none⟩) hlt).trans c3
    have hlt1 : w.heap.size < w1.heap.size := Nat.lt_of_lt_of_le hlt hb.size
    clear CR hb
    rw [HZ.out] at CZ
    by_cases hc : z ≤ 240
    · have hcz : (z : Int) ≤ 240 := by omega
      go_wp2_with (go_at_call 14; refine Calls.mono CZ.out ?_; rintro e w2 ⟨rfl, hb⟩)
      go_ret
      exact ⟨ret_b (by rw [decide_eq_true hc]; rfl), HB.out.trans ((B1.out.trans (hb.mono B1.out.size)).mono HB.out.size)⟩
    · have hcz : ¬ (z : Int) ≤ 240 := by omega
      go_wp2_with (go_at_call 14; refine Calls.mono CZ.out ?_; rintro e w2 ⟨rfl, hb⟩)
      go_ret
      exact ⟨ret_b (by rw [decide_eq_false hc, decide_eq_false (by omega)]; rfl), HB.out.trans ((B1.out.trans (hb.mono B1.out.size)).mono HB.out.size)⟩

end Go.Proofs.Ytmamnlphhiaeoaa

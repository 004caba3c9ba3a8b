/-
  The walks of the document's Same at two nodes that are the same, and of the law's own over.
-/
import Derived.Test.YtmamnlphhiaeoaaNdLaw
import Derived.Test.YtmamnlphhiaeoaaEnRef
namespace Go.Proofs.Ytmamnlphhiaeoaa
open Go.Shelf Go.RowKit Go.Lib Go.Sort

set_option maxHeartbeats 4000000 in
set_option maxRecDepth 100000 in
theorem nsame_any (n : Nd) (ve vk vs ue uk us : Value) (w : World) (h : NdR w ve vk vs n) (h' : NdR w ue uk us n) (hs : Sm n) :
    Calls Try.prog 20 #[.agg #[.bool n.leaf, ve, vk, vs], .agg #[.bool n.leaf, ue, uk, us]] w fun e w' => e = .returned (.bool true) ∧ Below w.heap.size w w' := by
  obtain ⟨lf, es, ks, ss⟩ := n
  obtain ⟨s1, s2, s3, s4, s5⟩ := hs
  simp only at s1 s2 s3 s4 s5 ⊢
  have BW : Below w.heap.size w ((w.alloc (.cells #[.bool lf, ve, vk, vs] 30)).alloc (.cells #[.bool lf, ue, uk, us] 30)) := belAlloc _ (belAlloc _ (Below.refl _ _))
  have K1 : Cl ((w.alloc (.cells #[.bool lf, ve, vk, vs] 30)).alloc (.cells #[.bool lf, ue, uk, us] 30)) w.heap.size #[.bool lf, ve, vk, vs] 30 := (Cl.new0 _ _ _).alloc _
  have K2 : Cl ((w.alloc (.cells #[.bool lf, ve, vk, vs] 30)).alloc (.cells #[.bool lf, ue, uk, us] 30)) (w.heap.size + 1) #[.bool lf, ue, uk, us] 30 := Cl.new1 _ _ _ _
  have H := h.below BW
  have H' := h'.below BW
  obtain ⟨ae, ce, rfl, _⟩ := rowShape h.e
  obtain ⟨ak, ck, rfl, _⟩ := rowShape h.k
  obtain ⟨az, cz, rfl, _⟩ := rowShape h.s
  obtain ⟨be, de, rfl, _⟩ := rowShape h'.e
  obtain ⟨bk, dk, rfl, _⟩ := rowShape h'.k
  obtain ⟨bz, dz, rfl, _⟩ := rowShape h'.s
  simp only at *
  have HB : Hid _ := BW
  clear h h' BW
  go_enter Try.func20, Try.ntmps20
  go_upto_region 1 with fail
  generalize ((w.alloc (.cells #[.bool lf, .slice ae es.length ce, .slice ak ks.length ck, .slice az ss.length cz] 30)).alloc (.cells #[.bool lf, .slice be es.length de, .slice bk ks.length dk, .slice bz ss.length dz] 30)) = W at *
  obtain ⟨c0, c1, c2, c3⟩ := K1.four
  obtain ⟨d0, d1, d2, d3⟩ := K2.four
  have l1 := K1.lt
  have l2 := K2.lt
  obtain ⟨_, _, e1, _, _, a3⟩ := H.k
  cases e1
  obtain ⟨_, _, e1, _, _, a4⟩ := H'.k
  cases e1
  obtain ⟨_, _, e1, _, _, a5⟩ := H.s
  cases e1
  obtain ⟨_, _, e1, _, _, a6⟩ := H'.s
  cases e1
  have KA : Aside (ks ≠ [] → ∃ b off, ak = some ⟨b, off, none⟩ ∧ b < W.heap.size ∧ CellsK encI 1 W b off ks) := a3
  have KB : Aside (ks ≠ [] → ∃ b off, bk = some ⟨b, off, none⟩ ∧ b < W.heap.size ∧ CellsK encI 1 W b off ks) := a4
  have SA : Aside (ss ≠ [] → ∃ b off, az = some ⟨b, off, none⟩ ∧ b < W.heap.size ∧ CellsK encS 1 W b off ss) := a5
  have SB : Aside (ss ≠ [] → ∃ b off, bz = some ⟨b, off, none⟩ ∧ b < W.heap.size ∧ CellsK encS 1 W b off ss) := a6
  have EA : Aside (Row encP 2 W (.slice ae es.length ce) es) := H.e
  have EB : Aside (Row encP 2 W (.slice be es.length de) es) := H'.e
  clear a3 a4 a5 a6 H H' K1 K2
  go_wp2
  go_loopg [5] ks.length (fun kx s5 wr => ∃ (i : Nat), s5 = .int .i64 i ∧ i ≤ ks.length ∧ ks.length - i ≤ kx ∧ Hid (GR W wr))
  case atStart => exact ⟨0, rfl, Nat.zero_le _, Nat.le_refl _, GR.refl _⟩
  case round =>
    obtain ⟨i, rfl, hi, hki, HG⟩ := hrel
    have x2 : wr.cell? ⟨w.heap.size, 2, none⟩ = some (.slice ak ks.length ck) := (HG.out.below.cell (p := ⟨w.heap.size, 2, none⟩) l1).trans c2
    have y2 : wr.cell? ⟨w.heap.size + 1, 2, none⟩ = some (.slice bk ks.length dk) := (HG.out.below.cell (p := ⟨w.heap.size + 1, 2, none⟩) l2).trans d2
    by_cases hil : i < ks.length
    · have hilz : (i : Int) < (ks.length : Int) := by omega
      obtain ⟨b, off, rfl, hb, z1⟩ := rowI_at KA.out i hil HG.out.below
      obtain ⟨b', off', rfl, hb', z2⟩ := rowI_at KB.out i hil HG.out.below
      generalize ks[i]! = x at *
      go_wp2_with fail
      go_quiet (fail)
      go_wp2
      go_roundg (ks.length - (i + 1))
      case measure => omega
      case rel => exact ⟨i + 1, by go_num, by omega, Nat.le_refl _, HG.out.drewN _⟩
    · have hilz : ¬ (i : Int) < (ks.length : Int) := by omega
      obtain rfl : i = ks.length := by omega
      go_wp2
      go_loopg [6] ss.length (fun kx s6 wr2 => ∃ (i : Nat), s6 = .int .i64 i ∧ i ≤ ss.length ∧ ss.length - i ≤ kx ∧ Hid (GR W wr2))
      case atStart => exact ⟨0, rfl, Nat.zero_le _, Nat.le_refl _, HG⟩
      case round =>
        clear x2 y2 HG
        obtain ⟨i, rfl, hi, hki, HG⟩ := hrel
        have x3 : wr.cell? ⟨w.heap.size, 3, none⟩ = some (.slice az ss.length cz) := (HG.out.below.cell (p := ⟨w.heap.size, 3, none⟩) l1).trans c3
        have y3 : wr.cell? ⟨w.heap.size + 1, 3, none⟩ = some (.slice bz ss.length dz) := (HG.out.below.cell (p := ⟨w.heap.size + 1, 3, none⟩) l2).trans d3
        by_cases hil : i < ss.length
        · have hilz2 : (i : Int) < (ss.length : Int) := by omega
          obtain ⟨b, off, rfl, hb, z1⟩ := rowS_at SA.out i hil HG.out.below
          obtain ⟨b', off', rfl, hb', z2⟩ := rowS_at SB.out i hil HG.out.below
          generalize ss[i]! = x at *
          go_wp2_with fail
          go_quiet (fail)
          go_wp2
          go_roundg (ss.length - (i + 1))
          case measure => omega
          case rel => exact ⟨i + 1, by go_num, by omega, Nat.le_refl _, HG.out.drewN _⟩
        · have hilz2 : ¬ (i : Int) < (ss.length : Int) := by omega
          obtain rfl : i = ss.length := by omega
          have x1 : wr.cell? ⟨w.heap.size, 1, none⟩ = some (.slice ae es.length ce) := (HG.out.below.cell (p := ⟨w.heap.size, 1, none⟩) l1).trans c1
          have y1 : wr.cell? ⟨w.heap.size + 1, 1, none⟩ = some (.slice be es.length de) := (HG.out.below.cell (p := ⟨w.heap.size + 1, 1, none⟩) l2).trans d1
          have CE : Hid _ := same_any _ _ es es wr (EA.out.below HG.out.below) (EB.out.below HG.out.below) (by omega) (by omega)
          rw [decide_eq_true (rfl : es = es)] at CE
          go_wp2_with (go_at_call 44; refine Calls.mono CE.out ?_; rintro e w2 ⟨rfl, hb2⟩)
          go_ret
          exact ⟨rfl, HB.out.trans ((HG.out.below.trans (hb2.mono HG.out.below.size)).mono HB.out.size)⟩

/-- No more than is looked at. -/
structure Ov (n : Nd) : Prop where
  e : n.es.length ≤ 60
  k : n.ks.length ≤ 60
  s : n.ss.length ≤ 60
  ez : ∀ x ∈ n.es, x.1.size ≤ 60 ∧ x.2.size ≤ 300
  sz : ∀ x ∈ n.ss, x.size ≤ 60
theorem Ov.sm {n : Nd} (h : Ov n) : Sm n := by
  have a : szL n.es ≤ n.es.length * 362 := szL_bound fun x hx => by have := h.ez x hx; unfold szE; omega
  have b : szK n.ss ≤ n.ss.length * (5 + 60) := szK_bound fun x hx => h.sz x hx
  have := h.e
  have := h.k
  have := h.s
  exact ⟨by omega, by omega, by omega, by omega, by omega⟩

set_option maxHeartbeats 4000000 in
set_option maxRecDepth 100000 in
theorem nover_any (n : Nd) (ve vk vs : Value) (w : World) (h : NdR w ve vk vs n) :
    Calls Try.prog 9 #[.agg #[.bool n.leaf, ve, vk, vs]] w fun e w' => (e = .returned (.bool true) ∨ (e = .returned (.bool false) ∧ Ov n)) ∧ Below w.heap.size w w' := by
  obtain ⟨lf, es, ks, ss⟩ := n
  simp only
  obtain ⟨B, c0, c1, c2, c3, hlt⟩ := ndCl w lf ve vk vs 26
  have H := h.below B
  obtain ⟨ae, ce, rfl, _⟩ := rowShape h.e
  obtain ⟨ak, ck, rfl, _⟩ := rowShape h.k
  obtain ⟨az, cz, rfl, _⟩ := rowShape h.s
  simp only at *
  have HB : Hid _ := B
  clear h B
  go_enter Try.func9, Try.ntmps9
  go_upto_region 1 with fail
  generalize w.alloc (.cells #[.bool lf, .slice ae es.length ce, .slice ak ks.length ck, .slice az ss.length cz] 26) = W at *
  by_cases k1 : (60 : Int) < (es.length : Int)
  · clear H
    go_wp2
    go_ret
    exact ⟨Or.inl rfl, HB.out⟩
  · by_cases k2 : (60 : Int) < (ks.length : Int)
    · clear H
      go_wp2
      go_ret
      exact ⟨Or.inl rfl, HB.out⟩
    · by_cases k3 : (60 : Int) < (ss.length : Int)
      · clear H
        go_wp2
        go_ret
        exact ⟨Or.inl rfl, HB.out⟩
      · obtain ⟨_, _, e1, _, _, a3⟩ := H.e
        cases e1
        obtain ⟨_, _, e1, _, _, a5⟩ := H.s
        cases e1
        have EA : Aside (es ≠ [] → ∃ b off, ae = some ⟨b, off, none⟩ ∧ b < W.heap.size ∧ CellsK encP 2 W b off es) := a3
        have SA : Aside (ss ≠ [] → ∃ b off, az = some ⟨b, off, none⟩ ∧ b < W.heap.size ∧ CellsK encS 1 W b off ss) := a5
        clear a3 a5 H
        have q1 : es.length ≤ 60 := by omega
        have q2 : ks.length ≤ 60 := by omega
        have q3 : ss.length ≤ 60 := by omega
        go_wp2
        go_loopg [3] es.length (fun kx s3 wr => ∃ (i : Nat), s3 = .int .i64 i ∧ i ≤ es.length ∧ es.length - i ≤ kx ∧ W = wr ∧ Hid (∀ x ∈ es.take i, x.1.size ≤ 60 ∧ x.2.size ≤ 300))
        case atStart => exact ⟨0, rfl, Nat.zero_le _, Nat.le_refl _, rfl, fun x hx => by simp at hx⟩
        case round =>
          obtain ⟨i, rfl, hi, hki, rfl, HN⟩ := hrel
          by_cases hil : i < es.length
          · have hilz : (i : Int) < (es.length : Int) := by omega
            obtain ⟨b, off, rfl, hb, z1, z2⟩ := row_at EA.out i hil (Below.refl _ W)
            have T : Hid (es[i]!.1.size ≤ 60 ∧ es[i]!.2.size ≤ 300 → ∀ x ∈ es.take (i + 1), x.1.size ≤ 60 ∧ x.2.size ≤ 300) := fun e => take_all (p := fun x : En => x.1.size ≤ 60 ∧ x.2.size ≤ 300) HN.out hil e
            generalize es[i]! = x at *
            by_cases g1 : (60 : Int) < (x.1.size : Int)
            · clear HN T
              go_wp2
              go_ret
              exact ⟨Or.inl rfl, HB.out⟩
            · by_cases g2 : (300 : Int) < (x.2.size : Int)
              · clear HN T
                go_wp2
                go_ret
                exact ⟨Or.inl rfl, HB.out⟩
              · have N2 : Hid (∀ x ∈ es.take (i + 1), x.1.size ≤ 60 ∧ x.2.size ≤ 300) := T.out (by omega)
                clear HN T
                go_wp2
                go_roundg (es.length - (i + 1))
                case measure => omega
                case rel => exact ⟨i + 1, by go_num, by omega, Nat.le_refl _, rfl, N2⟩
          · have hilz : ¬ (i : Int) < (es.length : Int) := by omega
            obtain rfl : i = es.length := by omega
            rw [List.take_length] at HN
            go_wp2
            go_loopg [4] ss.length (fun kx s4 wr => ∃ (i : Nat), s4 = .int .i64 i ∧ i ≤ ss.length ∧ ss.length - i ≤ kx ∧ W = wr ∧ Hid (∀ x ∈ ss.take i, x.size ≤ 60))
            case atStart => exact ⟨0, rfl, Nat.zero_le _, Nat.le_refl _, rfl, fun x hx => by simp at hx⟩
            case round =>
              obtain ⟨i, rfl, hi, hki, rfl, HN2⟩ := hrel
              by_cases hil : i < ss.length
              · have hilz2 : (i : Int) < (ss.length : Int) := by omega
                obtain ⟨b, off, rfl, hb, z1⟩ := rowS_at SA.out i hil (Below.refl _ W)
                have T : Hid (ss[i]!.size ≤ 60 → ∀ x ∈ ss.take (i + 1), x.size ≤ 60) := fun e => take_all (p := fun x : ByteArray => x.size ≤ 60) HN2.out hil e
                generalize ss[i]! = x at *
                by_cases g1 : (60 : Int) < (x.size : Int)
                · clear HN2 T
                  go_wp2
                  go_ret
                  exact ⟨Or.inl rfl, HB.out⟩
                · have N2 : Hid (∀ x ∈ ss.take (i + 1), x.size ≤ 60) := T.out (by omega)
                  clear HN2 T
                  go_wp2
                  go_roundg (ss.length - (i + 1))
                  case measure => omega
                  case rel => exact ⟨i + 1, by go_num, by omega, Nat.le_refl _, rfl, N2⟩
              · have hilz2 : ¬ (i : Int) < (ss.length : Int) := by omega
                obtain rfl : i = ss.length := by omega
                rw [List.take_length] at HN2
                go_wp2
                go_ret
                exact ⟨Or.inr ⟨rfl, ⟨q1, q2, q3, HN.out, HN2.out⟩⟩, HB.out⟩

end Go.Proofs.Ytmamnlphhiaeoaa

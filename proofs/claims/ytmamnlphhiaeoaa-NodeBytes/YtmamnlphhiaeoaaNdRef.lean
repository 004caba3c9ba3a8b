/-
  The walk of the document's Right.
-/
import Derived.Test.YtmamnlphhiaeoaaNdRt
namespace Go.Proofs.Ytmamnlphhiaeoaa
open Go.Shelf Go.RowKit Go.Lib Go.Sort

set_option maxHeartbeats 8000000 in
set_option maxRecDepth 100000 in
theorem rnright_any (n : Nd) (ve vk vs : Value) (w : World) (h : NdR w ve vk vs n) (hs : Sm n) :
    Calls Try.prog 11 #[.agg #[.bool n.leaf, ve, vk, vs]] w fun e w' => e = .returned (.bool (rtN n)) ∧ Below w.heap.size w w' := by
  obtain ⟨lf, es, ks, ss⟩ := n
  obtain ⟨he, hk, hss⟩ := h
  obtain ⟨s1, s2, s3, s4, s5⟩ := hs
  simp only at he hk hss s1 s2 s3 s4 s5
  obtain ⟨B, c0, c1, c2, c3, hlt⟩ := ndCl w lf ve vk vs 30
  have CE : Hid _ := rright_any ve es _ (he.below B) (by omega)
  have RK0 := hk.below B
  have RS0 := hss.below B
  obtain ⟨ae, ce, rfl, _⟩ := rowShape he
  obtain ⟨ak, ck, rfl, _⟩ := rowShape hk
  obtain ⟨az, cz, rfl, _⟩ := rowShape hss
  have HB : Hid _ := B
  clear he hk hss B
  cases lf with
  | true =>
    clear RK0 RS0
    cases hr : rgB es with
    | false =>
      have E : Hid (rtN ⟨true, es, ks, ss⟩ = false) := by
        show _ = _
        unfold rtN
        rw [if_pos rfl, hr]; simp
      rw [hr] at CE
      clear hr
      go_enter Try.func11, Try.ntmps11
      go_upto_region 1 with fail
      generalize w.alloc (.cells #[.bool true, .slice ae es.length ce, .slice ak ks.length ck, .slice az ss.length cz] 30) = W at *
      go_wp2_with (go_at_call 29; refine Calls.mono CE.out ?_; rintro e w1 ⟨rfl, hb⟩)
      go_ret
      exact ⟨ret_b E.out.symm, HB.out.trans (hb.mono HB.out.size)⟩
    | true =>
      rw [hr] at CE
      by_cases k1 : ks.length = 0
      · have z1 : ((ks.length : Int) == 0) = true := by rw [beq_iff_eq]; omega
        by_cases k2 : ss.length = 0
        · have E : Hid (rtN ⟨true, es, ks, ss⟩ = true) := by
            show _ = _
            unfold rtN
            rw [if_pos rfl, hr, decide_eq_true k1, decide_eq_true k2]; simp
          have z2 : ((ss.length : Int) == 0) = true := by rw [beq_iff_eq]; omega
          clear hr k1 k2
          go_enter Try.func11, Try.ntmps11
          go_upto_region 1 with fail
          generalize w.alloc (.cells #[.bool true, .slice ae es.length ce, .slice ak ks.length ck, .slice az ss.length cz] 30) = W at *
          go_upto_region 3 with (go_at_call 29; refine Calls.mono CE.out ?_; rintro e w1 ⟨rfl, hb⟩)
          have d2 : w1.cell? ⟨w.heap.size, 2, none⟩ = some (.slice ak ks.length ck) := (hb.cell (p := ⟨w.heap.size, 2, none⟩) hlt).trans c2
          have d3 : w1.cell? ⟨w.heap.size, 3, none⟩ = some (.slice az ss.length cz) := (hb.cell (p := ⟨w.heap.size, 3, none⟩) hlt).trans c3
          have B1 : Hid (Below w.heap.size w w1) := HB.out.trans (hb.mono HB.out.size)
          clear hb CE
          go_wp2
          go_ret
          exact ⟨ret_b E.out.symm, B1.out⟩
        · have E : Hid (rtN ⟨true, es, ks, ss⟩ = false) := by
            show _ = _
            unfold rtN
            rw [if_pos rfl, decide_eq_false k2]; simp
          have z2 : ((ss.length : Int) == 0) = false := by rw [beq_eq_false_iff_ne]; omega
          clear hr k1 k2
          go_enter Try.func11, Try.ntmps11
          go_upto_region 1 with fail
          generalize w.alloc (.cells #[.bool true, .slice ae es.length ce, .slice ak ks.length ck, .slice az ss.length cz] 30) = W at *
          go_upto_region 3 with (go_at_call 29; refine Calls.mono CE.out ?_; rintro e w1 ⟨rfl, hb⟩)
          have d2 : w1.cell? ⟨w.heap.size, 2, none⟩ = some (.slice ak ks.length ck) := (hb.cell (p := ⟨w.heap.size, 2, none⟩) hlt).trans c2
          have d3 : w1.cell? ⟨w.heap.size, 3, none⟩ = some (.slice az ss.length cz) := (hb.cell (p := ⟨w.heap.size, 3, none⟩) hlt).trans c3
          have B1 : Hid (Below w.heap.size w w1) := HB.out.trans (hb.mono HB.out.size)
          clear hb CE
          go_wp2
          go_ret
          exact ⟨ret_b E.out.symm, B1.out⟩
      · have z1 : ((ks.length : Int) == 0) = false := by rw [beq_eq_false_iff_ne]; omega
        have E : Hid (rtN ⟨true, es, ks, ss⟩ = false) := by
          show _ = _
          unfold rtN
          rw [if_pos rfl, decide_eq_false k1]; simp
        clear hr k1
        go_enter Try.func11, Try.ntmps11
        go_upto_region 1 with fail
        generalize w.alloc (.cells #[.bool true, .slice ae es.length ce, .slice ak ks.length ck, .slice az ss.length cz] 30) = W at *
        go_upto_region 3 with (go_at_call 29; refine Calls.mono CE.out ?_; rintro e w1 ⟨rfl, hb⟩)
        have d2 : w1.cell? ⟨w.heap.size, 2, none⟩ = some (.slice ak ks.length ck) := (hb.cell (p := ⟨w.heap.size, 2, none⟩) hlt).trans c2
        have d3 : w1.cell? ⟨w.heap.size, 3, none⟩ = some (.slice az ss.length cz) := (hb.cell (p := ⟨w.heap.size, 3, none⟩) hlt).trans c3
        have B1 : Hid (Below w.heap.size w w1) := HB.out.trans (hb.mono HB.out.size)
        clear hb CE
        go_wp2
        go_ret
        exact ⟨ret_b E.out.symm, B1.out⟩
  | false =>
    clear CE
    by_cases k1 : es.length = 0
    · have k1z : ¬ (0 : Int) < (es.length : Int) := by omega
      by_cases k2 : 0 < ks.length
      · have k2z : ((ks.length : Int) == 0) = false := by rw [beq_eq_false_iff_ne]; omega
        by_cases k3 : ss.length + 1 = ks.length
        · have z3 : ((ss.length : Int) != (ks.length : Int) - 1) = false := by rw [bne_eq_false_iff_eq]; omega
          have E : Hid (rtN ⟨false, es, ks, ss⟩ = (ksB ks && kyB ss)) := by
            show _ = _
            unfold rtN
            rw [if_neg (by simp), decide_eq_true k1, decide_eq_true k2, decide_eq_true k3]; simp
          clear k1 k3
          obtain ⟨ak1, ck1, e1, a1, a2, a3⟩ := RK0
          cases e1
          obtain ⟨az1, cz1, e1, b1, b2, b3⟩ := RS0
          cases e1
          have K3 : Aside (ks ≠ [] → ∃ b off, ak = some ⟨b, off, none⟩ ∧ b < (w.alloc (.cells #[.bool false, .slice ae es.length ce, .slice ak ks.length ck, .slice az ss.length cz] 30)).heap.size ∧ CellsK encI 1 (w.alloc (.cells #[.bool false, .slice ae es.length ce, .slice ak ks.length ck, .slice az ss.length cz] 30)) b off ks) := a3
          have S3 : Aside (ss ≠ [] → ∃ b off, az = some ⟨b, off, none⟩ ∧ b < (w.alloc (.cells #[.bool false, .slice ae es.length ce, .slice ak ks.length ck, .slice az ss.length cz] 30)).heap.size ∧ CellsK encS 1 (w.alloc (.cells #[.bool false, .slice ae es.length ce, .slice ak ks.length ck, .slice az ss.length cz] 30)) b off ss) := b3
          clear a3 b3
          generalize es.length = ne at *
          go_enter Try.func11, Try.ntmps11
          go_upto_region 1 with fail
          generalize w.alloc (.cells #[.bool false, .slice ae ne ce, .slice ak ks.length ck, .slice az ss.length cz] 30) = W at *
          go_wp2
          go_loopg [4] ks.length (fun kx s4 wr => ∃ (i : Nat), s4 = .int .i64 i ∧ i ≤ ks.length ∧ ks.length - i ≤ kx ∧ W = wr ∧ Hid (∀ k ∈ ks.take i, okK k = true))
          case atStart => exact ⟨0, rfl, Nat.zero_le _, Nat.le_refl _, rfl, fun x hx => by simp at hx⟩
          case round =>
            obtain ⟨i, rfl, hi, hki, rfl, HN⟩ := hrel
            by_cases hil : i < ks.length
            · have hilz : (i : Int) < (ks.length : Int) := by omega
              obtain ⟨b, off, rfl, hb, x1⟩ := rowI_at K3.out i hil (Below.refl _ W)
              have M : Hid (ks[i]! ∈ ks) := bang_mem hil
              have T : Hid (okK ks[i]! = true → ∀ k ∈ ks.take (i + 1), okK k = true) := fun e => take_all HN.out hil e
              generalize ks[i]! = x at *
              by_cases c1 : x < 2
              · have E2 : Hid (rtN ⟨false, es, ks, ss⟩ = false) := by show _ = _; rw [E.out, ksB_no M.out (okK_no (Or.inl c1))]; rfl
                clear HN T
                go_wp2
                go_ret
                exact ⟨ret_b E2.out.symm, HB.out⟩
              · by_cases c2 : 4294967295 < x
                · have E2 : Hid (rtN ⟨false, es, ks, ss⟩ = false) := by show _ = _; rw [E.out, ksB_no M.out (okK_no (Or.inr c2))]; rfl
                  clear HN T
                  go_wp2
                  go_ret
                  exact ⟨ret_b E2.out.symm, HB.out⟩
                · have N2 : Hid (∀ k ∈ ks.take (i + 1), okK k = true) := T.out (okK_yes c1 c2)
                  clear HN T
                  go_wp2
                  go_roundg (ks.length - (i + 1))
                  case measure => omega
                  case rel => exact ⟨i + 1, by go_num, by omega, Nat.le_refl _, rfl, N2⟩
            · have hilz : ¬ (i : Int) < (ks.length : Int) := by omega
              obtain rfl : i = ks.length := by omega
              rw [List.take_length] at HN
              have E1 : Hid (rtN ⟨false, es, ks, ss⟩ = kyB ss) := by show _ = _; rw [E.out, ksB_yes HN.out]; rfl
              clear HN E
              go_wp2
              go_loopg [5, 6] ss.length (fun kx s5 s6 wr => ∃ (i : Nat), s5 = .int .i64 i ∧ i ≤ ss.length ∧ ss.length - i ≤ kx ∧ Hid (GR W wr) ∧ Hid (∀ j, j < i → okS ss j = true))
              case atStart => exact ⟨0, rfl, Nat.zero_le _, Nat.le_refl _, GR.refl _, fun j hj => absurd hj (Nat.not_lt_zero _)⟩
              case round =>
                obtain ⟨i, rfl, hi, hki, HG, HN⟩ := hrel
                have d3 : wr.cell? ⟨w.heap.size, 3, none⟩ = some (.slice az ss.length cz) := (HG.out.below.cell (p := ⟨w.heap.size, 3, none⟩) hlt).trans c3
                by_cases hil : i < ss.length
                · have hilz : (i : Int) < (ss.length : Int) := by omega
                  obtain ⟨b, off, rfl, hb, x1⟩ := rowS_at S3.out i hil HG.out.below
                  obtain ⟨x, hx⟩ : ∃ x, ss[i]! = x := ⟨_, rfl⟩
                  rw [hx] at x1
                  have X : Hid (ss[i]! = x) := hx
                  clear hx
                  have C : Hid _ := may_any x ⟨#[]⟩ wr
                  cases hm : mayB x ⟨#[]⟩ with
                  | false =>
                    rw [hm] at C
                    have RF : Hid (kyB ss = false) := kyB_no i hil (okS_of (b := false) (c := (i == 0 || ltK ss[i - 1]! ss[i]!)) (by rw [X.out]; exact hm) rfl)
                    clear HN hm
                    go_wp2_with (go_at_call 30; refine Calls.mono C.out ?_; rintro e w1 ⟨rfl, rfl⟩)
                    go_quiet (fail)
                    go_wp2
                    go_ret
                    exact ⟨ret_b (by rw [E1.out, RF.out]), HB.out.trans ((HG.out.drewN _).below.mono HB.out.size)⟩
                  | true =>
                    rw [hm] at C
                    have M : Hid (mayB x ⟨#[]⟩ = true) := hm
                    clear hm
                    rcases Nat.eq_zero_or_pos i with hi0 | hi0
                    · have N2 : Hid (∀ j, j < i + 1 → okS ss j = true) := fun j hj => by
                        obtain rfl : j = i := by omega
                        rw [okS_of (b := true) (c := true) (by rw [X.out]; exact M.out) (by rw [hi0]; rfl)]; rfl
                      have hd : decide ((0 : Int) < (i : Int)) = false := by rw [hi0]; decide
                      have hd2 : decide (0 < i) = false := by rw [hi0]; decide
                      clear HN hi0
                      go_wp2_with (go_at_call 30; refine Calls.mono C.out ?_; rintro e w1 ⟨rfl, rfl⟩)
                      go_quiet (fail)
                      go_wp2
                      go_roundg (ss.length - (i + 1))
                      case measure => omega
                      case rel => exact ⟨i + 1, by go_num, by omega, Nat.le_refl _, HG.out.drewN _, N2⟩
                    · obtain ⟨i, rfl⟩ : ∃ i', i = i' + 1 := ⟨i - 1, by omega⟩
                      clear hi0
                      obtain ⟨b2, off2, e2, hb2, z1⟩ := rowS_at S3.out i (by omega) HG.out.below
                      cases e2
                      obtain ⟨y, hy⟩ : ∃ y, ss[i]! = y := ⟨_, rfl⟩
                      rw [hy] at z1
                      have Y : Hid (ss[i]! = y) := hy
                      clear hy
                      cases hlt1 : ltK y x
                      · have RF : Hid (kyB ss = false) := kyB_no (i + 1) hil (okS_of (b := true) (c := false) (by rw [X.out]; exact M.out) (by
                          rw [show i + 1 - 1 = i from rfl, X.out, Y.out, hlt1]; rfl))
                        have hlt2 : Op.bytesLess y.toList x.toList = false := hlt1
                        clear HN hlt1
                        go_wp2_with (go_at_call 30; refine Calls.mono C.out ?_; rintro e w1 ⟨rfl, rfl⟩)
                        go_quiet (fail)
                        go_wp2
                        go_ret
                        exact ⟨ret_b (by rw [E1.out, RF.out]), HB.out.trans ((HG.out.drewN _).below.mono HB.out.size)⟩
                      · have N2 : Hid (∀ j, j < i + 1 + 1 → okS ss j = true) := fun j hj => by
                          rcases Nat.lt_or_ge j (i + 1) with c | c
                          · exact HN.out j c
                          · obtain rfl : j = i + 1 := by omega
                            rw [okS_of (b := true) (c := true) (by rw [X.out]; exact M.out) (by rw [show i + 1 - 1 = i from rfl, X.out, Y.out, hlt1]; simp)]; rfl
                        have hlt2 : Op.bytesLess y.toList x.toList = true := hlt1
                        clear HN hlt1
                        go_wp2_with (go_at_call 30; refine Calls.mono C.out ?_; rintro e w1 ⟨rfl, rfl⟩)
                        go_quiet (fail)
                        go_wp2
                        go_roundg (ss.length - (i + 1 + 1))
                        case measure => omega
                        case rel => exact ⟨i + 1 + 1, by go_num, by omega, Nat.le_refl _, HG.out.drewN _, N2⟩
                · have hilz : ¬ (i : Int) < (ss.length : Int) := by omega
                  obtain rfl : i = ss.length := by omega
                  have RT : Hid (kyB ss = true) := kyB_yes HN.out
                  clear HN
                  go_wp2
                  go_ret
                  exact ⟨ret_b (by rw [E1.out, RT.out]), HB.out.trans (HG.out.below.mono HB.out.size)⟩
        · have z3 : ((ss.length : Int) != (ks.length : Int) - 1) = true := by rw [bne_iff_ne]; omega
          have E : Hid (rtN ⟨false, es, ks, ss⟩ = false) := by
            show _ = _
            unfold rtN
            rw [if_neg (by simp), decide_eq_false k3]; simp
          clear k1 k3 RK0 RS0
          generalize es.length = ne at *
          go_enter Try.func11, Try.ntmps11
          go_upto_region 1 with fail
          generalize w.alloc (.cells #[.bool false, .slice ae ne ce, .slice ak ks.length ck, .slice az ss.length cz] 30) = W at *
          go_wp2
          go_ret
          exact ⟨ret_b E.out.symm, HB.out⟩
      · have k2z : ((ks.length : Int) == 0) = true := by rw [beq_iff_eq]; omega
        have E : Hid (rtN ⟨false, es, ks, ss⟩ = false) := by
          show _ = _
          unfold rtN
          rw [if_neg (by simp), decide_eq_false k2]; simp
        clear k1 RK0 RS0
        generalize es.length = ne at *
        go_enter Try.func11, Try.ntmps11
        go_upto_region 1 with fail
        generalize w.alloc (.cells #[.bool false, .slice ae ne ce, .slice ak ks.length ck, .slice az ss.length cz] 30) = W at *
        go_wp2
        go_ret
        exact ⟨ret_b E.out.symm, HB.out⟩
    · have k1z : (0 : Int) < (es.length : Int) := by omega
      have E : Hid (rtN ⟨false, es, ks, ss⟩ = false) := by
        show _ = _
        unfold rtN
        rw [if_neg (by simp), decide_eq_false k1]; simp
      clear k1 RK0 RS0
      generalize es.length = ne at *
      go_enter Try.func11, Try.ntmps11
      go_upto_region 1 with fail
      generalize w.alloc (.cells #[.bool false, .slice ae ne ce, .slice ak ks.length ck, .slice az ss.length cz] 30) = W at *
      go_wp2
      go_ret
      exact ⟨ret_b E.out.symm, HB.out⟩

end Go.Proofs.Ytmamnlphhiaeoaa

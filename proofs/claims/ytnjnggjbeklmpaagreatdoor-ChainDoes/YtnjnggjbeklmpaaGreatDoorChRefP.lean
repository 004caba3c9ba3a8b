/-
  The walks of rootstockref09's Parse and Pages.
-/
import Derived.Test.YtnjnggjbeklmpaaGreatDoorChRefB
namespace Go.Proofs.YtnjnggjbeklmpaaGreatDoor
open Go.Shelf Go.RowKit Go.Lib Go.Sort
set_option linter.unusedVariables false

theorem step_run {ops : Array Oper} {o : Oper} {a : Act} {K : Act → World → Prop} {Q : Exit → Act → World → Prop} {E : Prop} {w : World} (hgd : o.guard = .none) (s x : Operand)
    (ho : o.op = .call { callee := .builtin .append, args := #[s, x], argTypes := #[33, 33] }) (base : Nat) (v : Value) (l : List Pr) (hs : a.eval s = v) (hown : OwnP base w v l)
    (b off c : Nat) (hx : a.eval x = .slice (some ⟨b, off, .none⟩) 1 c) (y : Pr) (c0 : w.cell? ⟨b, off, .none⟩ = some (.int .i64 y.1)) (c1 : w.cell? ⟨b, off + 1, .none⟩ = some (.int .i64 y.2)) (hl : l.length + 1 < 1000000) (hbase : base ≤ w.heap.size) (ly : List Pr) (hly : l ++ [y] = ly)
    (h : ∀ ao n c w', OwnP base w' (.slice ao n c) ly → (∀ w0, Below base w0 w → Below base w0 w') → K (a.put o.dst (.slice ao n c)) w') : if Region.wanted o (yielded ops a.tmps) = true then Oper.wp Tryz.prog o a w K Q else E := by
  obtain ⟨i0, hi, hz0, hz1, hz2⟩ := info_parts infoPair
  refine step_append_lies w hgd s x 33 ho base 51 i0 _ 2 16 Tryz.underlying33 hi hz0 hz1 hz2 rfl (by decide) v _ _ hs hown ⟨b, off, .none⟩ 1 c (encP y) hx rfl ?_ (encP_one y) (by decide) (by unfold maxLen; omega) (by omega) hbase _ rfl ?_
  · intro j u hj
    simp only [encP] at hj
    match j, hj with
    | 0, hj => simp at hj; subst hj; simpa [Addr.add] using c0
    | 1, hj => simp at hj; subst hj; simpa [Addr.add] using c1
  · intro g cap w' g1 g2 _ _
    refine h _ _ _ _ ?_ (fun w0 hb => hb.grown g2 hbase fun k hk => ?_)
    · subst hly
      show w'.ownsRow base 51 2 _ (l ++ [y]).length (flatK encP 2 (l ++ [y]).toArray).toList
      rw [List.length_append, List.length_singleton, flatK_snoc encP 2 encP_len]
      exact g1
    · rcases row_of_owns hown with hr | ⟨r, hr, hle⟩
      · rw [hr] at hk; cases hk
      · rw [hr] at hk; cases hk; exact hle

/-- No body is so. -/
theorem prs_none {s : List UInt8} (h : s.length < 6 ∨ 29 < rdCnt s ∨ s.length ≠ 6 + 8 * rdCnt s) : prs s = (0, [], 3) := by
  rcases prs_cases s with ⟨n, l, hb, e, _⟩ | ⟨_, hp⟩
  · exfalso
    have h1 := bodyL_length n l
    have h2 := body_cnt hb
    have h3 := (bodyB_iff.1 hb).2.1
    rw [e] at h1 h2
    omega
  · exact hp
theorem cut_num (s : ByteArray) (i j : Nat) : beNat (s.extract i j).data.toList = beNat ((s.data.toList.drop i).take (j - i)) := by
  rw [Lib.extract_data]
theorem beNat_lt4 (l : List UInt8) (h : l.length ≤ 4) : beNat l < 4294967296 := by
  have h1 := beNat_lt l
  have h3 : 256 ^ l.length ≤ 256 ^ 4 := Nat.pow_le_pow_right (by omega) h
  have h4 : (256 : Nat) ^ 4 = 4294967296 := by decide
  omega
def rdTo (s : List UInt8) (i : Nat) : List Pr := (List.range i).map (rdRun s)
theorem rdTo_succ (s : List UInt8) (i : Nat) : rdTo s (i + 1) = rdTo s i ++ [rdRun s i] := by simp [rdTo, List.range_succ]
theorem rdTo_length (s : List UInt8) (i : Nat) : (rdTo s i).length = i := by simp [rdTo]
theorem rdTo_wf (s : List UInt8) (i : Nat) : Wf (rdTo s i) := fun r hr => by
  obtain ⟨j, _, rfl⟩ := List.mem_map.1 hr
  unfold rdRun
  have h1 := beNat_lt4 ((s.drop (6 + 8 * j)).take 4) (by simp; omega)
  have h2 := beNat_lt4 ((s.drop (6 + 8 * j + 4)).take 4) (by simp; omega)
  simp only
  omega
theorem prs_read (s : List UInt8) : prs s = if bodyB (rdNext s) (rdTo s (rdCnt s)) = true ∧ bodyL (rdNext s) (rdTo s (rdCnt s)) = s then (rdNext s, rdTo s (rdCnt s), 0) else (0, [], 3) :=
  prs_of s _ _ fun n' l' hb e => by
    subst e
    exact ⟨body_next hb, body_runs hb⟩
theorem ret_par {a b : Int} {v : Value} {c d : Bool} (h1 : a = b) (h2 : c = d) : Ending.returned (.tuple #[.int .i64 a, v, .bool c]) = .returned (.tuple #[.int .i64 b, v, .bool d]) := by rw [h1, h2]

set_option maxHeartbeats 4000000 in
set_option maxRecDepth 100000 in
theorem rparse_any (s : ByteArray) (w : World) (hs : s.size ≤ 100000) :
    Calls Tryz.prog 33 #[.string s] w fun e w' => ∃ ao n c, e = .returned (.tuple #[.int .i64 (prs s.data.toList).1, .slice ao n c, .bool (decide ((prs s.data.toList).2.2 = 0))]) ∧ OwnP w.heap.size w' (.slice ao n c) (prs s.data.toList).2.1 ∧ Below w.heap.size w w' := by
  have hsl : s.data.toList.length = s.size := by simp
  by_cases h6 : (s.size : Int) < 6
  · have E : Hid (prs s.data.toList = (0, [], 3)) := prs_none (.inl (by rw [hsl]; omega))
    rw [E.out]
    clear hsl
    go_enter Tryz.func33, Tryz.ntmps33
    go_wp2
    go_ret3
    exact ⟨_, _, _, rfl, OwnP.empty _ _, Below.refl _ _⟩
  · have hz6 : 6 ≤ s.size := by omega
    have I1 : Hid _ := refInt (s.extract 0 4) w (by rw [ByteArray.size_extract]; omega)
    have I2 : Hid _ := refInt (s.extract 4 6) w (by rw [ByteArray.size_extract]; omega)
    rw [cut_num, show (s.data.toList.drop 0).take (4 - 0) = s.data.toList.take 4 by simp] at I1
    rw [cut_num, show (s.data.toList.drop 4).take (6 - 4) = (s.data.toList.drop 4).take 2 by simp] at I2
    have hN := beNat_lt4 (s.data.toList.take 4) (by simp; omega)
    have hC : rdCnt s.data.toList < 4294967296 := beNat_lt4 ((s.data.toList.drop 4).take 2) (by simp; omega)
    have HNX : Hid (rdNext s.data.toList = (beNat (s.data.toList.take 4) : Int)) := rfl
    rw [show beNat ((s.data.toList.drop 4).take 2) = rdCnt s.data.toList from rfl] at I2
    have PR := prs_read s.data.toList
    have RW := rdTo_wf s.data.toList
    have PN := @prs_none s.data.toList
    rw [HNX.out] at PR
    rw [hsl] at PN
    have CUT : Hid (∀ i : Nat, rdRun s.data.toList i = ((beNat (s.extract (6 + 8 * i) (6 + 8 * i + 4)).data.toList : Int), (beNat (s.extract (6 + 8 * i + 4) (6 + 8 * i + 8)).data.toList : Int))) := fun i => by
      unfold rdRun
      rw [cut_num, cut_num, show 6 + 8 * i + 4 - (6 + 8 * i) = 4 by omega, show 6 + 8 * i + 8 - (6 + 8 * i + 4) = 4 by omega]
    generalize beNat (s.data.toList.take 4) = nx at *
    obtain ⟨cn, hcn⟩ : ∃ cn, rdCnt s.data.toList = cn := ⟨_, rfl⟩
    rw [hcn] at I2 hC PR PN
    clear hcn HNX hsl
    by_cases h29 : (29 : Int) < cn
    · have E : Hid (prs s.data.toList = (0, [], 3)) := PN (.inr (.inl (by omega)))
      rw [E.out]
      clear PR PN RW CUT hN
      go_enter Tryz.func33, Tryz.ntmps33
      go_wp2_with fail
      refine Calls.mono I1.out ?_
      rintro e w2 ⟨rfl, rfl⟩
      go_wp2_with fail
      refine Calls.mono I2.out ?_
      rintro e w2 ⟨rfl, rfl⟩
      clear I1 I2
      go_wp2
      go_ret3
      exact ⟨_, _, _, rfl, OwnP.empty _ _, Below.refl _ _⟩
    · have e1 : wrap64 (8 * (cn : Int)) = 8 * (cn : Int) := by unfold wrap64; omega
      have e2 : wrap64 (6 + 8 * (cn : Int)) = 6 + 8 * (cn : Int) := by unfold wrap64; omega
      by_cases hlen : s.size = 6 + 8 * cn
      · have hlz : ((s.size : Int) != 6 + 8 * (cn : Int)) = false := by rw [hlen]; simp
        have HSZ : Hid (s.size = 6 + 8 * cn) := hlen
        have HRW : Hid (∀ i, Wf (rdTo s.data.toList i)) := RW
        have HPR : Hid _ := PR
        have HNx : Hid ((nx : Int) ≤ 9223372036854775807) := by show _ ≤ _; omega
        have CI : Hid (∀ (x : ByteArray) (u : World), x.size ≤ 4 → _) := fun x u hx => refInt x u hx
        clear hlen PN RW PR
        go_enter Tryz.func33, Tryz.ntmps33
        go_wp2_with fail
        refine Calls.mono I1.out ?_
        rintro e w2 ⟨rfl, rfl⟩
        go_wp2_with fail
        refine Calls.mono I2.out ?_
        rintro e w2 ⟨rfl, rfl⟩
        clear I1 I2
        go_wp2
        clear hlz e1 e2
        go_loopg [7, 8] cn (fun kx s7 s8 wr => ∃ (i : Nat) (ao' : Option Addr) (n' c' : Nat), s7 = .slice ao' n' c' ∧ s8 = .int .i64 i ∧ i ≤ cn ∧ cn - i ≤ kx ∧ Aside (OwnP w.heap.size wr (.slice ao' n' c') (rdTo s.data.toList i)) ∧ Hid (Below w.heap.size w wr))
        case atStart => exact ⟨0, none, 0, 0, rfl, rfl, Nat.zero_le _, Nat.le_refl _, OwnP.empty _ _, Below.refl _ _⟩
        case round =>
          obtain ⟨i, ao', n', c', rfl, rfl, hi, hki, HO, HB⟩ := hrel
          by_cases hil : i < cn
          · have hilz : (i : Int) < (cn : Int) := by omega
            have e1 : wrap64 (8 * (i : Int)) = 8 * (i : Int) := by unfold wrap64; omega
            have RS : Hid (rdTo s.data.toList i ++ [((beNat (s.extract (6 + 8 * i) (6 + 8 * i + 4)).data.toList : Int), (beNat (s.extract (6 + 8 * i + 4) (6 + 8 * i + 8)).data.toList : Int))] = rdTo s.data.toList (i + 1)) := by show _ = _; rw [rdTo_succ, CUT.out]
            have hrl := rdTo_length s.data.toList i
            obtain ⟨k, hk⟩ : ∃ k : Nat, k = 6 + 8 * i := ⟨_, rfl⟩
            rw [← hk] at RS
            have HKZ : Hid (6 + 8 * (i : Int) = (k : Int)) := by show _ = _; omega
            have e0 : wrap64 (6 + 8 * (i : Int)) = 6 + 8 * (i : Int) := by unfold wrap64; omega
            have hkb : k + 8 ≤ s.size := by have := HSZ.out; omega
            have hln : (rdTo s.data.toList i).length + 1 < 1000000 := by omega
            have hs6 : w.heap.size ≤ wr.heap.size := HB.out.size
            go_wp2_with fail
            have W4 : IntKind.i64.wrap (6 + 8 * (i : Int) + 4) = 6 + 8 * (i : Int) + 4 := by rw [IntKind.wrap_i64]; omega
            have W8 : IntKind.i64.wrap (6 + 8 * (i : Int) + 8) = 6 + 8 * (i : Int) + 8 := by rw [IntKind.wrap_i64]; omega
            have i3 : 6 + 8 * (i : Int) + 4 ≤ (s.size : Int) := by omega
            have i5 : 6 + 8 * (i : Int) + 8 ≤ (s.size : Int) := by omega
            have i6 : 6 + 8 * (i : Int) + 4 ≤ 6 + 8 * (i : Int) + 8 := by omega
            have i7 : (0 : Int) ≤ 6 + 8 * (i : Int) + 4 := by omega
            have i8 : (0 : Int) ≤ 6 + 8 * (i : Int) + 8 := by omega
            have i9 : 6 + 8 * (i : Int) ≤ 6 + 8 * (i : Int) + 4 := by omega
            have i10 : (0 : Int) ≤ 6 + 8 * (i : Int) := by omega
            have j0 : (6 + 8 * (i : Int)).toNat = k := by omega
            have j4 : (6 + 8 * (i : Int) + 4).toNat = k + 4 := by omega
            have j8 : (6 + 8 * (i : Int) + 8).toNat = k + 8 := by omega
            clear e0 e1 HKZ
            go_region_law (first | (refine step_run rfl _ _ rfl w.heap.size _ (rdTo s.data.toList i) rfl (World.ownsRow.alloc HO.out _) wr.heap.size 0 1 rfl ((beNat (s.extract k (k + 4)).data.toList : Int), (beNat (s.extract (k + 4) (k + 8)).data.toList : Int)) (by rw [hk]; simp) (by rw [hk]; simp) hln (by simp; omega) _ RS.out ?_; intro ao2 n2 c2 w7 HO7 HB7) | (go_simp; refine Calls.mono (CI.out _ _ (by simp; omega)) ?_; rintro e w6 ⟨rfl, rfl⟩; dsimp only))
            all_goals
              have O7 : Aside (OwnP w.heap.size w7 (.slice ao2 n2 c2) (rdTo s.data.toList (i + 1))) := HO7
              have B7 : Hid (Below w.heap.size w w7) := HB7 _ (HB.out.drew.alloc hs6 _)
              clear HO7 HB7 HO HB RS
              go_wp2
              go_roundg (cn - (i + 1))
            case measure => omega
            case rel => exact ⟨i + 1, ao2, n2, c2, rfl, by go_num, by omega, Nat.le_refl _, O7, B7⟩
          · have hilz : ¬ (i : Int) < (cn : Int) := by omega
            obtain rfl : i = cn := by omega
            have CB : Hid _ := rbody_any (nx : Int) HNx.out (.slice ao' n' c') (rdTo s.data.toList i) wr HO.out.own.row (HRW.out i) (by rw [rdTo_length]; omega)
            obtain ⟨L, hL⟩ : ∃ L, rdTo s.data.toList i = L := ⟨_, rfl⟩
            rw [hL] at CB HPR
            have O1 : Aside (OwnP w.heap.size wr (.slice ao' n' c') L) := by rw [← hL]; exact HO.out
            clear HO hL HRW CUT CI
            by_cases hb : bodyB (nx : Int) L = true
            · rw [show bodyT (nx : Int) L = bodyL (nx : Int) L from if_pos hb, hb] at CB
              by_cases he : bodyL (nx : Int) L = s.data.toList
              · have E2 : Hid (prs s.data.toList = ((nx : Int), L, 0)) := by show _ = _; rw [HPR.out, if_pos ⟨hb, he⟩]
                rw [he, show (⟨s.data.toList.toArray⟩ : ByteArray) = s from rfl] at CB
                clear he hb HPR
                have hbq : (s.toList == s.toList) = true := by simp
                go_wp2_with fail
                refine Calls.mono CB.out ?_
                rintro e w6 ⟨rfl, b6⟩
                have O6 : Aside (OwnP w.heap.size w6 (.slice ao' n' c') L) := ownsRow_below O1.out b6
                have B6 : Hid (Below w.heap.size w w6) := HB.out.trans (b6.mono HB.out.size)
                clear CB b6 O1 HB
                go_wp2
                go_ret3
                refine ⟨ao', n', c', ret_par (by rw [E2.out]) (by rw [E2.out]; rfl), ?_, B6.out⟩
                rw [E2.out]
                exact O6.out
              · have E2 : Hid (prs s.data.toList = (0, [], 3)) := by show _ = _; rw [HPR.out, if_neg (fun c => he c.2)]
                have hne := str_ne (a := ⟨(bodyL (nx : Int) L).toArray⟩) (b := s) (fun e => he (by rw [← e]))
                clear he hb HPR
                generalize (⟨(bodyL (nx : Int) L).toArray⟩ : ByteArray) = X at *
                go_wp2_with fail
                refine Calls.mono CB.out ?_
                rintro e w6 ⟨rfl, b6⟩
                have B6 : Hid (Below w.heap.size w w6) := HB.out.trans (b6.mono HB.out.size)
                clear CB b6 O1 HB
                go_wp2
                go_ret3
                refine ⟨none, 0, 0, ret_par (by rw [E2.out]) (by rw [E2.out]; rfl), ?_, B6.out⟩
                rw [E2.out]
                exact OwnP.empty _ _
            · have E2 : Hid (prs s.data.toList = (0, [], 3)) := by show _ = _; rw [HPR.out, if_neg (fun c => hb c.1)]
              rw [show bodyT (nx : Int) L = [] from if_neg hb, show bodyB (nx : Int) L = false by simpa using hb] at CB
              clear hb HPR
              go_wp2_with fail
              refine Calls.mono CB.out ?_
              rintro e w6 ⟨rfl, b6⟩
              have B6 : Hid (Below w.heap.size w w6) := HB.out.trans (b6.mono HB.out.size)
              clear CB b6 O1 HB
              go_wp2
              go_ret3
              refine ⟨none, 0, 0, ret_par (by rw [E2.out]) (by rw [E2.out]; rfl), ?_, B6.out⟩
              rw [E2.out]
              exact OwnP.empty _ _
      · have hlz : ((s.size : Int) != 6 + 8 * (cn : Int)) = true := by rw [bne_iff_ne]; omega
        have E : Hid (prs s.data.toList = (0, [], 3)) := PN (.inr (.inr hlen))
        rw [E.out]
        clear PR PN RW CUT hN hlen
        go_enter Tryz.func33, Tryz.ntmps33
        go_wp2_with fail
        refine Calls.mono I1.out ?_
        rintro e w2 ⟨rfl, rfl⟩
        go_wp2_with fail
        refine Calls.mono I2.out ?_
        rintro e w2 ⟨rfl, rfl⟩
        clear I1 I2
        go_wp2
        go_ret3
        exact ⟨_, _, _, rfl, OwnP.empty _ _, Below.refl _ _⟩

set_option maxHeartbeats 400000 in
theorem rpages_any (v : Value) (l : List Pr) (w : World) (h : Row encP 2 w v l) (hl : l.length ≤ 40000) :
    Calls Tryz.prog 28 #[v] w fun e w' => e = .returned (.int .i64 (pagesN (nmL l).length)) ∧ Below w.heap.size w w' := by
  have C : Hid _ := rnorm_any v l w h hl
  have hl2 := nmL_length l
  obtain ⟨la, lc, rfl, _⟩ := h
  generalize nmL l = s at *
  by_cases h0 : s.length % 29 = 0
  · have E : Hid (((s.length : Int) / 29) = (pagesN s.length : Int)) := by show _ = _; unfold pagesN; omega
    have hz : ¬ (0 : Int) < (s.length : Int) % 29 := by omega
    have hz2 : ¬ (0 : Int) < (s.length : Int).tmod 29 := by rw [Int.tmod_eq_emod_of_nonneg (by omega)]; exact hz
    clear h0
    go_enter Tryz.func28, Tryz.ntmps28
    go_wp2_with fail
    refine Calls.mono C.out ?_
    rintro e w1 ⟨v1, rfl, o1, b1⟩
    obtain ⟨ao, cc, rfl, _⟩ := o1
    have B1 : Hid (Below w.heap.size w w1) := b1
    clear b1 C
    go_wp2
    go_ret
    exact ⟨ret_int E.out, B1.out⟩
  · have E : Hid (((s.length : Int) / 29) + 1 = (pagesN s.length : Int)) := by show _ = _; unfold pagesN; omega
    have hz : (0 : Int) < (s.length : Int) % 29 := by omega
    have hz2 : (0 : Int) < (s.length : Int).tmod 29 := by rw [Int.tmod_eq_emod_of_nonneg (by omega)]; exact hz
    have e1 : wrap64 ((s.length : Int) / 29 + 1) = (s.length : Int) / 29 + 1 := by unfold wrap64; omega
    clear h0
    go_enter Tryz.func28, Tryz.ntmps28
    go_wp2_with fail
    refine Calls.mono C.out ?_
    rintro e w1 ⟨v1, rfl, o1, b1⟩
    obtain ⟨ao, cc, rfl, _⟩ := o1
    have B1 : Hid (Below w.heap.size w w1) := b1
    clear b1 C
    go_wp2
    go_ret
    exact ⟨ret_int E.out, B1.out⟩

end Go.Proofs.YtnjnggjbeklmpaaGreatDoor

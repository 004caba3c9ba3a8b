/-
  The walk of the document's Read of a chain.
-/
import Derived.Test.YtnjnggjbeklmpaaGreatDoorChRefW
namespace Go.Proofs.YtnjnggjbeklmpaaGreatDoor
open Go.Shelf Go.RowKit Go.Lib Go.Sort
set_option linter.unusedVariables false

theorem rd_size240 (d : Dk) (id : Int) : (d.rd id 3).1.1.size ≤ 240 := by
  unfold Dk.rd
  split
  · split
    · unfold openE
      split
      · rename_i h
        have hz : (opn id (d.get id).1.1.data.toList).2.1.length ≤ 240 := by
          rcases opn_cases id (d.get id).1.1.data.toList with ⟨k, b, h1, h2, h3⟩ | ⟨_, h3⟩
          · rw [h3]
            exact (sealE_zero.1 h1).1
          · rw [h3]; exact Nat.zero_le _
        show (⟨(opn id (d.get id).1.1.data.toList).2.1.toArray⟩ : ByteArray).size ≤ 240
        rw [ba_size]
        omega
      · simp
    · simp
  · simp
theorem prs_next (s : List UInt8) : (prs s).1 ≤ 4294967295 := by
  rcases prs_cases s with ⟨n, l, hb, _, hp⟩ | ⟨_, hp⟩
  · rw [hp]; exact (nextB_iff.1 (bodyB_iff.1 hb).1).2
  · rw [hp]; show (0 : Int) ≤ _; omega
theorem prs_err (s : List UInt8) : (prs s).2.2 = 0 ∨ (prs s).2.2 = 3 := by
  rcases prs_cases s with ⟨n, l, hb, _, hp⟩ | ⟨_, hp⟩
  · rw [hp]; exact .inl rfl
  · rw [hp]; exact .inr rfl

section
variable {ops : Array Oper} {rest : List Oper} {o : Oper} {a : Act} {Q : Exit → Act → World → Prop} {B : Nat} {w0 w : World} {l : List Res}
theorem app_runs (hgd : o.guard = .none) (s x : Operand) (ho : o.op = .call { callee := .builtin .append, args := #[s, x], argTypes := #[33, 33] }) (v : Value) (al : List Pr) (hs : a.eval s = v) (h : Sep B w0 w (RunR v al :: l))
    (u : Value) (ps : List Pr) (hx : a.eval x = u) (hu : Row encP 2 w u ps) (hl : al.length + ps.length < 1000000)
    (hK : ∀ ao n c w', Sep B w0 w' (RunR (.slice ao n c) (al ++ ps) :: l) → wpList Tryz.prog ops Q rest (a.put o.dst (.slice ao n c)) w') : wpList Tryz.prog ops Q (o :: rest) a w := by
  obtain ⟨i0, hi, hz0, hz1, hz2⟩ := info_parts infoPair
  obtain ⟨ao, cap, rfl, h1, h2, h3⟩ := hu
  have hown := h.run
  obtain ⟨av, cv, rfl, _⟩ := hown.shape
  cases ao with
  | none =>
    have hm : ps = [] := by
      rcases List.eq_nil_or_concat ps with e | ⟨m', y, e⟩
      · exact e
      · obtain ⟨b, off, e2, _⟩ := h3 (by rw [e]; simp)
        cases e2
    subst hm
    rw [h2 rfl] at hx
    refine wpList_append_own_none hgd s x 33 ho 0 51 i0 2 Tryz.underlying33 hi _ _ _ hs hown hx ?_
    exact hK _ _ _ _ (by rw [List.append_nil]; exact h)
  | some ad =>
    refine wpList_append_own_at w hgd s x 33 ho 0 51 i0 _ 2 16 Tryz.underlying33 hi hz0 hz1 hz2 rfl (by decide) _ _ _ hs hown ad ps.length cap (flatK encP 2 ps.toArray).toList hx (by simp) ?_ (flatK_oneCell encP_one encP_len) (by unfold maxLen; omega) (by omega) (Nat.zero_le _) ?_
    · intro j u hj
      obtain ⟨hj1, hj2⟩ := List.getElem?_eq_some_iff.1 hj
      have hj3 : j < ps.length * 2 := by simpa using hj1
      obtain ⟨b, off, e2, _, hc⟩ := h3 (by intro e; rw [e] at hj3; simp at hj3)
      cases e2
      rw [Go.WideShapes.add_plain, hc j hj3, getElem!_pos _ j (by simpa using hj3), ← hj2]
      simp
    · intro v' w' g1 g2 _ g4
      obtain ⟨ao', n', c', rfl⟩ : ∃ ao n c, v' = .slice ao n c := by
        rcases g1.2 with ⟨h, _⟩ | ⟨g, cap, cur, h, _⟩
        · exact ⟨_, _, _, h⟩
        · exact ⟨_, _, _, h⟩
      refine hK _ _ _ _ (h.appendedRun ?_ g2 g4)
      show w'.ownsRow 0 51 2 _ (al ++ ps).length (flatK encP 2 (al ++ ps).toArray).toList
      rw [List.length_append, flatK_append encP 2 encP_len]
      exact g1
end

/-- What Read answers. -/
def RdEnd (B : Nat) (w0 : World) (g c : Nat) (l : List Res) (R : (List Pr × List Int × Int) × Dk) (e : Ending) (w' : World) : Prop :=
  ∃ a1 n1 c1 a2 n2 c2, e = .returned (.tuple #[.slice a1 n1 c1, .slice a2 n2 c2, .int .i64 R.1.2.2]) ∧ Sep B w0 w' (RunR (.slice a1 n1 c1) (nmL R.1.1) :: RowR 3 (.slice a2 n2 c2) (R.1.2.1.map (Value.int .i64)) :: RFile g c R.2 :: l)
theorem RdEnd.nil {B : Nat} {w0 w' : World} {g c : Nat} {l : List Res} {er : Int} {d : Dk} (h : Sep B w0 w' (RFile g c d :: l)) : RdEnd B w0 g c l (([], [], er), d) (.returned (.tuple #[.slice none 0 0, .slice none 0 0, .int .i64 er])) w' :=
  ⟨none, 0, 0, none, 0, 0, rfl, (h.addNil 3).addRun (Below.refl _ _) (OwnP.empty _ _)⟩

section
variable {B : Nat} {w0 w : World} {g c : Nat} {d : Dk} {l : List Res}
set_option maxRecDepth 100000 in
set_option maxHeartbeats 4000000 in
theorem rread_g (h : Sep B w0 w (RFile g c d :: l)) (head : Int) (hh : head ≤ 9223372036854775807) (hL : d.sure.length ≤ 1000) (hp : d.pend.length < 100000) (R : (List Pr × List Int × Int) × Dk) (hR : rdC (d.sure.length + 1) d [] [] head = R) :
    Calls Tryz.prog 11 #[ptr g, .int .i64 head] w (RdEnd B w0 g c l R) := by
  have S0 : Hid (Sep B w0 w (RunR (.slice none 0 0) [] :: RowR 3 (.slice none 0 0) (([] : List Int).map (Value.int .i64)) :: RFile g c d :: l)) := (h.addNil 3).addRun (Below.refl _ _) (OwnP.empty _ _)
  have HR0 : Hid _ := hR
  obtain ⟨SL, hSL⟩ : ∃ k, d.sure.length = k := ⟨_, rfl⟩
  have HL0 : Hid (d.sure.length = SL) := hSL
  rw [hSL] at HR0 hL
  have HP0 : Hid (d.pend.length < 100000) := hp
  clear h hR hSL hp
  go_enter Tryz.func11, Tryz.ntmps11
  go_wp2
  go_loopg [7, 8, 9] (SL + 1) (fun kx s7 s8 s9 wr => ∃ (al : List Pr) (il : List Int) (at' : Int) (dd : Dk) (a1 : Option Addr) (n1 c1 : Nat) (a2 : Option Addr) (n2 c2 : Nat), s7 = .slice a1 n1 c1 ∧ s8 = .slice a2 n2 c2 ∧ s9 = .int .i64 at' ∧ at' ≤ 9223372036854775807 ∧ Hid (rdC kx dd il al at' = R) ∧
    Hid (Sep B w0 wr (RunR (.slice a1 n1 c1) al :: RowR 3 (.slice a2 n2 c2) (il.map (Value.int .i64)) :: RFile g c dd :: l)) ∧ Hid (PgIds SL il) ∧ Hid (dd.sure.length = SL) ∧ Hid (dd.pend.length < 100000) ∧ kx + il.length = SL + 1 ∧ al.length ≤ 29 * il.length)
  case atStart => exact ⟨[], [], head, d, none, 0, 0, none, 0, 0, rfl, rfl, rfl, hh, HR0, S0, PgIds.nil SL, HL0, HP0, rfl, Nat.le_refl _⟩
  case round =>
    obtain ⟨al, il, at', dd, a1, n1, c1, a2, n2, c2, rfl, rfl, rfl, hat, HR, HS, HP, HL, HPE, hkx, hal⟩ := hrel
    clear S0 HR0 HL0 HP0
    have hil := HP.out.le
    obtain ⟨k, rfl⟩ : ∃ k, gk = k + 1 := ⟨gk - 1, by omega⟩
    by_cases h0 : at' = 0
    · subst h0
      have E : Hid (R = ((al, il, 0), dd)) := by show _ = _; rw [← HR.out, rdC_end]
      have CN : Hid _ := rnorm_own _ al wr HS.out.run.own.row (by omega)
      clear HR
      go_wp2_with fail
      refine Calls.mono CN.out ?_
      rintro e w3 ⟨v3, rfl, o3, b3⟩
      have S3 : Hid (Sep B w0 w3 (RunR v3 (nmL al) :: RowR 3 (.slice a2 n2 c2) (il.map (Value.int .i64)) :: RFile g c dd :: l)) := (HS.out.addRun b3 o3).up1.drop
      obtain ⟨va, vc, rfl, _⟩ := o3.shape
      clear CN o3 b3 HS
      go_wp2
      go_ret3
      rw [E.out]
      exact ⟨_, _, _, _, _, _, rfl, S3.out⟩
    · have hne : (at' != 0) = true := by rw [bne_iff_ne]; exact h0
      have H0 : Hid (at' ≠ 0) := h0
      obtain rfl := (HS.out.up1.introw).len
      clear h0
      go_wp2
      go_loopg [10] il.length (fun gm s10 wr => ∃ j : Nat, s10 = .int .i64 j ∧ j ≤ il.length ∧ il.length - j ≤ gm ∧ Hid (Sep B w0 wr (RunR (.slice a1 n1 c1) al :: RowR 3 (.slice a2 il.length c2) (il.map (Value.int .i64)) :: RFile g c dd :: l)) ∧ Hid (at' ∉ il.take j))
      case atStart => exact ⟨0, rfl, Nat.zero_le _, Nat.le_refl _, HS, by simp [Hid]⟩
      case round =>
        obtain ⟨j, rfl, hj, hgm, SJ, HM⟩ := hrel
        clear HS
        by_cases hjl : j < il.length
        · have hjz : (j : Int) < (il.length : Int) := by omega
          obtain ⟨r2, o2, rfl, hr2, hc2⟩ := (SJ.out.up1.introw).at hjl
          have T3 : Hid (il.take (j + 1) = il.take j ++ [il.getD j 0]) := take_snocW hjl
          have HY : Hid (il.getD j 0 ∈ il) := by
            show _ ∈ _
            have : il.getD j 0 = il[j] := by simp [List.getD_eq_getElem?_getD, hjl]
            rw [this]; exact List.getElem_mem _
          generalize il.getD j 0 = y at *
          by_cases hyx : y = at'
          · have hb : (y == at') = true := by simp [hyx]
            have E : Hid (R = (([], [], 3), dd)) := by show _ = _; rw [← HR.out, rdC_again H0.out (hyx ▸ HY.out)]
            clear hyx HR
            go_wp2
            go_ret3
            rw [E.out]
            exact RdEnd.nil SJ.out.drop.drop
          · have hb : (y == at') = false := by simp [hyx]
            have HM2 : Hid (at' ∉ il.take (j + 1)) := by
              show _ ∉ _
              rw [T3.out, List.mem_append, List.mem_singleton]
              rintro (hh | hh)
              · exact HM.out hh
              · exact hyx hh.symm
            clear hyx
            go_wp2
            go_roundg (il.length - (j + 1))
            case measure => omega
            case rel => exact ⟨j + 1, by go_num, by omega, Nat.le_refl _, SJ, HM2⟩
        · have hjz : ¬ (j : Int) < (il.length : Int) := by omega
          obtain rfl : j = il.length := by omega
          rw [List.take_length] at HM
          have CR : Hid _ := read_rf SJ.out.up2 at' 3 hat HPE.out
          rw [show ((3 : UInt8).toNat : Int) = 3 from rfl] at CR
          have hz := rd_size240 dd at'
          by_cases he : (dd.rd at' 3).1.2 = 0
          · have CP : Hid (∀ u, _) := fun u => rparse_any (dd.rd at' 3).1.1 u (by omega)
            have hp1 := prs_next (dd.rd at' 3).1.1.data.toList
            have hp2 := prs_runs_length (dd.rd at' 3).1.1.data.toList
            by_cases hq : (prs (dd.rd at' 3).1.1.data.toList).2.2 = 0
            · have ER := rdC_step (n := k) (l := al) H0.out HM.out he hq
              have HR2 : Hid (rdC k (dd.rd at' 3).2 (il ++ [at']) (al ++ (prs (dd.rd at' 3).1.1.data.toList).2.1) (prs (dd.rd at' 3).1.1.data.toList).1 = R) := ER.symm.trans HR.out
              have e2 := Dk.rd_has he
              have HP2 : Hid (PgIds SL (il ++ [at'])) := HP.out.snoc HM.out e2.1 (by rw [← HL.out]; exact e2.2)
              have HL2 : Hid ((dd.rd at' 3).2.sure.length = SL) := by show _ = _; rw [(dd.rd_same at' 3).1]; exact HL.out
              have HPE2 : Hid ((dd.rd at' 3).2.pend.length < 100000) := by show _ < _; rw [(dd.rd_same at' 3).2]; exact HPE.out
              rw [decide_eq_true hq] at CP
              rw [he] at CR
              clear HR HP HL HPE ER e2 hq he hz
              generalize dd.rd at' 3 = dr at *
              obtain ⟨⟨bs, er0⟩, d2⟩ := dr
              dsimp only at CR CP hp1 hp2 HR2 HL2 HPE2
              generalize prs bs.data.toList = pq at *
              obtain ⟨nx, ps, er1⟩ := pq
              dsimp only at CP hp1 hp2 HR2
              go_wp2_with fail
              refine Calls.mono CR.out ?_
              rintro e w4 ⟨rfl, s4⟩
              have S4 : Hid (Sep B w0 w4 (RunR (.slice a1 n1 c1) al :: RowR 3 (.slice a2 il.length c2) (il.map (Value.int .i64)) :: RFile g c d2 :: l)) := s4.dn2
              clear CR s4 SJ
              go_wp2_with fail
              refine Calls.mono (CP.out w4) ?_
              rintro e w5 ⟨ao5, n5, c5, rfl, o5, b5⟩
              have S5 : Hid (Sep B w0 w5 (RunR (.slice a1 n1 c1) al :: RunR (.slice ao5 n5 c5) ps :: RowR 3 (.slice a2 il.length c2) (il.map (Value.int .i64)) :: RFile g c d2 :: l)) := (S4.out.addRun b5 o5).up1
              clear CP o5 b5 S4
              go_wp2_with (at_builtin; refine app_runs rfl _ _ rfl _ al rfl S5.out _ ps rfl S5.out.up1.run.own.row (by omega) ?_)
              intro ao6 n6 c6 w6 s6
              have S6 : Hid (Sep B w0 w6 (RowR 3 (.slice a2 il.length c2) (il.map (Value.int .i64)) :: RunR (.slice ao6 n6 c6) (al ++ ps) :: RFile g c d2 :: l)) := s6.up1.drop.up1
              clear s6 S5
              go_wp2_with (at_builtin; refine app_int rfl _ _ rfl _ _ rfl (S6.out.alloc _) w6.heap.size 1 at' rfl (by simp) (by simp; omega) ?_)
              intro a7 n7 c7 w7 s7
              have S7 : Hid (Sep B w0 w7 (RunR (.slice ao6 n6 c6) (al ++ ps) :: RowR 3 (.slice a7 n7 c7) ((il ++ [at']).map (Value.int .i64)) :: RFile g c d2 :: l)) := by show Sep _ _ _ _; rw [List.map_append]; exact s7.up1
              clear s7 S6
              go_wp2
              go_roundg k
              case measure => omega
              case rel => exact ⟨al ++ ps, il ++ [at'], nx, d2, ao6, n6, c6, a7, n7, c7, rfl, rfl, rfl, by omega, HR2, S7, HP2, HL2, HPE2, by simp; omega, by simp; omega⟩
            · have E : Hid (R = (([], [], 3), (dd.rd at' 3).2)) := by show _ = _; rw [← HR.out, rdC_bad H0.out HM.out he hq]
              rw [decide_eq_false hq] at CP
              rw [he] at CR
              clear HR HP HL HPE hq he hz
              generalize dd.rd at' 3 = dr at *
              obtain ⟨⟨bs, er0⟩, d2⟩ := dr
              dsimp only at CR CP hp1 hp2 E
              generalize prs bs.data.toList = pq at *
              obtain ⟨nx, ps, er1⟩ := pq
              dsimp only at CP hp1 hp2
              go_wp2_with fail
              refine Calls.mono CR.out ?_
              rintro e w4 ⟨rfl, s4⟩
              have S4 : Hid (Sep B w0 w4 (RFile g c d2 :: l)) := s4.dn2.drop.drop
              clear CR s4 SJ
              go_wp2_with fail
              refine Calls.mono (CP.out w4) ?_
              rintro e w5 ⟨ao5, n5, c5, rfl, o5, b5⟩
              have S5 : Hid (Sep B w0 w5 (RFile g c d2 :: l)) := S4.out.below b5
              clear CP o5 b5 S4
              go_wp2
              go_ret3
              rw [E.out]
              exact RdEnd.nil S5.out
          · have E : Hid (R = (([], [], if (dd.rd at' 3).1.2 = 40 then 3 else (dd.rd at' 3).1.2), (dd.rd at' 3).2)) := by show _ = _; rw [← HR.out, rdC_err H0.out HM.out he]
            clear HR HP HL HPE hz
            generalize dd.rd at' 3 = dr at *
            obtain ⟨⟨bs, er⟩, d2⟩ := dr
            dsimp only at CR E he
            by_cases h40 : er = 40
            · subst h40
              rw [if_pos rfl] at E
              clear he
              go_wp2_with fail
              refine Calls.mono CR.out ?_
              rintro e w4 ⟨rfl, s4⟩
              have S4 : Hid (Sep B w0 w4 (RFile g c d2 :: l)) := s4.dn2.drop.drop
              clear CR s4 SJ
              go_wp2
              go_ret3
              rw [E.out]
              exact RdEnd.nil S4.out
            · rw [if_neg h40] at E
              have n0 : (er != 0) = true := by rw [bne_iff_ne]; exact he
              have n40 : (er == 40) = false := beq_eq_false_iff_ne.2 h40
              clear he h40
              go_wp2_with fail
              refine Calls.mono CR.out ?_
              rintro e w4 ⟨rfl, s4⟩
              have S4 : Hid (Sep B w0 w4 (RFile g c d2 :: l)) := s4.dn2.drop.drop
              clear CR s4 SJ
              go_wp2
              go_ret3
              rw [E.out]
              exact RdEnd.nil S4.out
theorem rread_f (h : Sep B w0 w (RFile g c d :: l)) (head : Int) (hh : head ≤ 9223372036854775807) (hL : d.sure.length ≤ 1000) (hp : d.pend.length < 100000) :
    Calls Tryz.prog 11 #[ptr g, .int .i64 head] w fun e w' => ∃ a1 n1 c1 a2 n2 c2, e = .returned (.tuple #[.slice a1 n1 c1, .slice a2 n2 c2, .int .i64 (d.cr head).1.2.2]) ∧
      Sep B w0 w' (RunR (.slice a1 n1 c1) (d.cr head).1.1 :: RowR 3 (.slice a2 n2 c2) ((d.cr head).1.2.1.map (Value.int .i64)) :: RFile g c (d.cr head).2 :: l) := rread_g h head hh hL hp _ rfl
end

end Go.Proofs.YtnjnggjbeklmpaaGreatDoor

/-
  The walk of the law DiskBreaks.
-/
import Derived.Test.YtnmmikgmhoecpaaWorks
import Derived.Test.YtnmmikgmhoecpaaPlain
namespace Go.Proofs.Ytnmmikgmhoecpaa
open Go.RowKit
set_option linter.unusedVariables false

/-- A disk of four sectors, behind t writes of the n that go well. -/
structure BInv (n t : Nat) (d : Dk) : Prop where
  dn : d.down = false
  br : d.brk = some (n - t)
  pl : d.pend.length = t
  sl : d.sure.length = 4

theorem BInv.step {n t : Nat} {d : Dk} (h : BInv n t d) (ht : t < n) {i : Nat} (hi : i < 4) {s : ByteArray} (hs : s.size = 256) : (d.put i s).1 = 0 ∧ BInv n (t + 1) (d.put i s).2 := by
  rw [Dk.put_ok h.dn (Dk.has_nat (by rw [h.sl]; exact hi)) hs]
  unfold Dk.tick
  rw [show ({ d with pend := d.pend ++ [((i : Int).toNat, s)], writes := wrap64 (d.writes + 1) } : Dk).brk = some ((n - (t + 1)) + 1) by show d.brk = _; rw [h.br]; congr 1; omega]
  exact ⟨rfl, h.dn, rfl, by simp [h.pl], h.sl⟩
theorem BInv.range {n t : Nat} {d : Dk} (h : BInv n t d) (s : ByteArray) : d.put 9 s = (40, d) := Dk.put_range h.dn (by unfold Dk.has; simp [h.sl])
theorem BInv.arg {n t : Nat} {d : Dk} (h : BInv n t d) {s : ByteArray} (hs : s.size ≠ 256) : d.put 0 s = (1, d) := Dk.put_arg h.dn (Dk.has_nat (n := 0) (by rw [h.sl]; omega)) hs

theorem BInv.last {n : Nat} {d : Dk} (h : BInv n n d) {s : ByteArray} (hs : s.size = 256) : (d.put 1 s).1 = 4 ∧ (d.put 1 s).2.down = true ∧ (d.put 1 s).2.pend = d.pend ++ [(1, s)] ∧ (d.put 1 s).2.sure = d.sure := by
  have h1 : d.has 1 = true := Dk.has_nat (n := 1) (by rw [h.sl]; omega)
  rw [Dk.put_ok (i := 1) h.dn h1 hs]
  unfold Dk.tick
  rw [show ({ d with pend := d.pend ++ [((1 : Int).toNat, s)], writes := wrap64 (d.writes + 1) } : Dk).brk = some 0 by show d.brk = _; rw [h.br]; congr 1; omega]
  exact ⟨rfl, rfl, rfl, rfl⟩

theorem BInv.crash {n : Nat} {d d2 : Dk} (h : BInv n n d) {s : ByteArray} (hs : s.size = 256) (hp : d2.pend = d.pend ++ [(1, s)]) (hsu : d2.sure = d.sure) (ok : d2.Ok) :
    (d2.crash [(n : Int)] (-1) 0).down = false ∧ (d2.crash [(n : Int)] (-1) 0).pend.length = 0 ∧ ((d2.crash [(n : Int)] (-1) 0).get 1).1.1 = s ∧ ((d2.crash [(n : Int)] (-1) 0).get 1).1.2 = 0 ∧
      ((d2.crash [(n : Int)] (-1) 0).get 1).2.down = false ∧ ((d2.crash [(n : Int)] (-1) 0).get 1).2.pend.length = 0 := by
  have hl : (d2.crash [(n : Int)] (-1) 0).sure.length = 4 := by rw [Dk.crash_length, hsu, h.sl]
  have hpl : d2.pend.length = n + 1 := by rw [hp]; simp [h.pl]
  have hsz : (sAt (crashTo d2.pend [(n : Int)] (-1) 0 d2.sure n) 1).size = 256 := sAt_size (crashTo_sizes ok _ _ _ n (by omega)) (by rw [crashTo_length, hsu, h.sl]; omega)
  have e1 : sAt (d2.crash [(n : Int)] (-1) 0).sure 1 = s := by
    show sAt (crashTo d2.pend [(n : Int)] (-1) 0 d2.sure d2.pend.length) 1 = s
    rw [hpl, crashTo_succ]
    unfold crashStep
    have ew : wAt d2.pend n = (1, s) := by rw [hp, ← h.pl]; exact wAt_snoc _ _
    rw [if_pos (by simp), if_neg (by omega), ew, sAt_set _ (by rw [crashTo_length, hsu, h.sl]; omega), if_pos rfl]
    exact tear_all hs hsz
  have eg : (d2.crash [(n : Int)] (-1) 0).get ((1 : Nat) : Int) = (((d2.crash [(n : Int)] (-1) 0).now 1, 0), { d2.crash [(n : Int)] (-1) 0 with reads := wrap64 ((d2.crash [(n : Int)] (-1) 0).reads + 1) }) := Dk.get_ok rfl (Dk.has_nat (by rw [hl]; omega))
  have eg2 : (d2.crash [(n : Int)] (-1) 0).get 1 = (((d2.crash [(n : Int)] (-1) 0).now 1, 0), { d2.crash [(n : Int)] (-1) 0 with reads := wrap64 ((d2.crash [(n : Int)] (-1) 0).reads + 1) }) := eg
  rw [eg2]
  exact ⟨rfl, rfl, e1, rfl, rfl, rfl⟩

def shortS : ByteArray := ⟨#[115, 104, 111, 114, 116]⟩

theorem row_one (w : World) (n : Nat) : IntRow (w.alloc (.cells #[.int .i64 (n : Nat)] 3)) (.slice (some ⟨w.heap.size, 0, none⟩) 1 1) [(n : Int)] := by
  refine ⟨some ⟨w.heap.size, 0, none⟩, 1, rfl, fun _ => ⟨w.heap.size, 0, rfl, by simp, fun j hj => ?_⟩⟩
  obtain rfl : j = 0 := by simpa using hj
  rw [World.cell?_alloc_at #[.int .i64 (n : Nat)] 3 _ _ rfl]; rfl

set_option maxHeartbeats 4000000 in
set_option maxRecDepth 100000 in
theorem breaks_walk (n more : Int) (w : World) : Calls Try.prog 6 #[.int .i64 n, .int .i64 more] w fun e w' => e = .returned (.bool true) ∧ Below w.heap.size w w' := by
  have CW : Hid _ := works_c w
  by_cases hg : n < 0 ∨ 60 < n ∨ more < 0 ∨ 60 < more
  · have fin : ∀ (hx : n < 0 ∨ 60 < n ∨ more < 0 ∨ 60 < more), True := fun _ => trivial
    clear fin
    by_cases h1 : n < 0
    · clear hg
      go_enter Try.func6, Try.ntmps6
      go_wp2_with fail
      refine Calls.mono CW.out ?_
      rintro e w1 ⟨rfl, b1⟩
      have B1 : Hid (Below w.heap.size w w1) := b1
      clear b1 CW
      go_wp2
      go_ret
      exact ⟨rfl, B1.out⟩
    · by_cases h2 : 60 < n
      · clear hg
        go_enter Try.func6, Try.ntmps6
        go_wp2_with fail
        refine Calls.mono CW.out ?_
        rintro e w1 ⟨rfl, b1⟩
        have B1 : Hid (Below w.heap.size w w1) := b1
        clear b1 CW
        go_wp2
        go_ret
        exact ⟨rfl, B1.out⟩
      · by_cases h3 : more < 0
        · clear hg
          go_enter Try.func6, Try.ntmps6
          go_wp2_with fail
          refine Calls.mono CW.out ?_
          rintro e w1 ⟨rfl, b1⟩
          have B1 : Hid (Below w.heap.size w w1) := b1
          clear b1 CW
          go_wp2
          go_ret
          exact ⟨rfl, B1.out⟩
        · have h4 : 60 < more := by omega
          clear hg
          go_enter Try.func6, Try.ntmps6
          go_wp2_with fail
          refine Calls.mono CW.out ?_
          rintro e w1 ⟨rfl, b1⟩
          have B1 : Hid (Below w.heap.size w w1) := b1
          clear b1 CW
          go_wp2
          go_ret
          exact ⟨rfl, B1.out⟩
  · obtain ⟨N, rfl⟩ : ∃ N : Nat, n = N := ⟨n.toNat, by omega⟩
    obtain ⟨M, rfl⟩ : ∃ M : Nat, more = M := ⟨more.toNat, by omega⟩
    have hN : N ≤ 60 := by omega
    have hM : M ≤ 60 := by omega
    have g1 : ¬ (N : Int) < 0 := by omega
    have g2 : ¬ (60 : Int) < (N : Int) := by omega
    have g3 : ¬ (M : Int) < 0 := by omega
    have g4 : ¬ (60 : Int) < (M : Int) := by omega
    clear hg
    go_enter Try.func6, Try.ntmps6
    go_wp2_with fail
    refine Calls.mono CW.out ?_
    rintro e w1 ⟨rfl, b1⟩
    have B1 : Hid (Below w.heap.size w w1) := b1
    have CN : Hid _ := new_o 4 w1 w.heap.size w b1.size b1
    clear b1 CW
    go_wp2_with fail
    refine Calls.mono CN.out ?_
    rintro e w2 ⟨b, rfl, o2⟩
    have CB : Hid _ := break_o o2 (N : Int) (by omega)
    clear o2 CN
    go_wp2_with fail
    refine Calls.mono CB.out ?_
    rintro e w3 ⟨rfl, o3⟩
    have O3 : Hid (One w.heap.size w w3 b ((Dk.new 4).stop N)) := o3
    have I3 : Hid (BInv N 0 ((Dk.new 4).stop N)) := ⟨rfl, by unfold Dk.stop; simp, rfl, rfl⟩
    clear o3 CB
    go_wp2
    go_loopg [7] N (fun gk s7 wr => ∃ (t : Nat) (d : Dk), s7 = .int .i64 t ∧ t ≤ N ∧ N - t ≤ gk ∧ Hid (BInv N t d) ∧ Aside (One w.heap.size w wr b d))
    case atStart => exact ⟨0, _, rfl, Nat.zero_le _, Nat.le_refl _, I3, O3.out⟩
    case round =>
      obtain ⟨t, d, rfl, ht, hgt, BI, O⟩ := hrel
      by_cases htl : t < N
      · have htz : (t : Int) < (N : Int) := by omega
        obtain ⟨r1, J⟩ := BI.out.step htl (i := t % 4) (by omega) (s := pageS 2) (by decide +kernel)
        have JI : Hid (BInv N (t + 1) (d.put ((t % 4 : Nat) : Int) (pageS 2)).2) := J
        have hpl := BI.out.pl
        have hm4 : Int.tmod (t : Int) 4 = ((t % 4 : Nat) : Int) := by rw [Int.tmod_eq_emod_of_nonneg (by omega)]; omega
        clear J
        go_wp2_with fail
        refine Calls.mono (page_o 2 (by decide) wr) ?_
        rintro e w4 ⟨rfl, l4⟩
        have CC0 := write_o (O.out.below l4) ((t % 4 : Nat) : Int) (pageS 2) (pageS_le _) (by omega)
        rw [r1] at CC0
        generalize hd2 : (d.put ((t % 4 : Nat) : Int) (pageS 2)).2 = d2 at JI CC0
        have CC : Hid _ := CC0
        clear l4 CC0 r1
        go_wp2_with fail
        refine Calls.mono CC.out ?_
        rintro e w5 ⟨rfl, o5⟩
        have O5 : Hid (One w.heap.size w w5 b d2) := o5
        have er : Hid (d2.put 9 (pageS 2) = (40, d2)) := JI.out.range _
        have ea : Hid (d2.put 0 shortS = (1, d2)) := JI.out.arg (by decide)
        have hpl2 := JI.out.pl
        clear o5 CC hd2
        go_wp2_with fail
        refine Calls.mono (page_o 2 (by decide) w5) ?_
        rintro e w6 ⟨rfl, l6⟩
        have CC := write_o (O5.out.below l6) 9 (pageS 2) (pageS_le _) (by omega)
        rw [er.out] at CC
        have CC2 : Hid _ := CC
        clear l6 CC
        go_wp2_with fail
        refine Calls.mono CC2.out ?_
        rintro e w7 ⟨rfl, o7⟩
        have CC := write_o o7 0 shortS (by decide) (by omega)
        rw [ea.out] at CC
        have CC3 : Hid _ := CC
        clear o7 CC CC2
        go_wp2_with fail
        refine Calls.mono CC3.out ?_
        rintro e w8 ⟨rfl, o8⟩
        have O8 : Aside (One w.heap.size w w8 b d2) := o8
        clear o8 CC3
        go_wp2
        go_roundg (N - (t + 1))
        case measure => omega
        case rel => exact ⟨t + 1, d2, by go_num, by omega, Nat.le_refl _, JI, O8⟩
      · have htz : ¬ (t : Int) < (N : Int) := by omega
        obtain rfl : t = N := by omega
        obtain ⟨q1, q2, q3, q4⟩ := BI.out.last (s := pageS 3) (by decide +kernel)
        have hdn := BI.out.dn
        have hpl := BI.out.pl
        have CD : Hid _ := down_o O.out
        go_wp2_with fail
        refine Calls.mono CD.out ?_
        rintro e w4 ⟨rfl, rfl⟩
        go_wp2_with fail
        refine Calls.mono (page_o 3 (by decide) _) ?_
        rintro e w5 ⟨rfl, l5⟩
        have CC0 := write_o (O.out.below l5) 1 (pageS 3) (pageS_le _) (by omega)
        rw [q1] at CC0
        generalize (d.put 1 (pageS 3)).2 = d2 at q2 q3 q4 CC0
        have CC : Hid _ := CC0
        clear l5 CD CC0 q1
        go_wp2_with fail
        refine Calls.mono CC.out ?_
        rintro e w6 ⟨rfl, o6⟩
        have O6 : Hid (One w.heap.size w w6 b d2) := o6
        clear o6 CC
        have hpl2 : d2.pend.length = t + 1 := by rw [q3]; simp [hpl]
        have Q3 : Hid (d2.pend = d.pend ++ [(1, pageS 3)]) := q3
        have Q4 : Hid (d2.sure = d.sure) := q4
        clear q3 q4
        have CD : Hid _ := down_o O6.out
        have CP : Hid _ := pending_o O6.out
        go_wp2_with fail
        refine Calls.mono CD.out ?_
        rintro e w7 ⟨rfl, rfl⟩
        go_wp2_with fail
        refine Calls.mono CP.out ?_
        rintro e w7 ⟨rfl, rfl⟩
        clear CD CP
        have hw1 : wrap64 ((t : Int) + 1) = ((t + 1 : Nat) : Int) := by unfold wrap64; omega
        have E1 : Hid (d2.get 0 = ((ByteArray.empty, 4), d2)) := Dk.get_down q2
        have E2 : Hid (d2.put 0 (pageS 4) = (4, d2)) := Dk.put_down q2
        have E3 : Hid (d2.sync = (4, d2)) := Dk.sync_down q2
        have HCR : Hid _ := BI.out.crash (s := pageS 3) (by decide +kernel) Q3.out Q4.out O6.out.ok
        clear BI O
        go_wp2
        go_loopg [8] M (fun gk s8 wr => ∃ u : Nat, s8 = .int .i64 u ∧ u ≤ M ∧ M - u ≤ gk ∧ Aside (One w.heap.size w wr b d2))
        case atStart => exact ⟨0, rfl, Nat.zero_le _, Nat.le_refl _, O6.out⟩
        case round =>
          obtain ⟨u, rfl, hu, hgu, O⟩ := hrel
          by_cases hul : u < M
          · have huz : (u : Int) < (M : Int) := by omega
            have CC0 := read_o O.out 0
            rw [E1.out] at CC0
            have CC : Hid _ := CC0
            clear CC0
            go_wp2_with fail
            refine Calls.mono CC.out ?_
            rintro e w8 ⟨rfl, o8⟩
            have O8 : Hid (One w.heap.size w w8 b d2) := o8
            clear o8 CC
            go_wp2_with fail
            refine Calls.mono (page_o 4 (by decide) _) ?_
            rintro e w9 ⟨rfl, l9⟩
            have CC0 := write_o (O8.out.below l9) 0 (pageS 4) (pageS_le _) (by omega)
            rw [E2.out] at CC0
            have CC : Hid _ := CC0
            clear CC0 l9
            go_wp2_with fail
            refine Calls.mono CC.out ?_
            rintro e w10 ⟨rfl, o10⟩
            have CC0 := sync_o o10 (by omega)
            rw [E3.out] at CC0
            have CC : Hid _ := CC0
            clear CC0 o10
            go_wp2_with fail
            refine Calls.mono CC.out ?_
            rintro e w11 ⟨rfl, o11⟩
            have O11 : Aside (One w.heap.size w w11 b d2) := o11
            clear o11 CC
            go_wp2
            go_roundg (M - (u + 1))
            case measure => omega
            case rel => exact ⟨u + 1, by go_num, by omega, Nat.le_refl _, O11⟩
          · have huz : ¬ (u : Int) < (M : Int) := by omega
            obtain rfl : u = M := by omega
            obtain ⟨k1, k2, k3, k4, k5, k6⟩ := HCR.out
            have CC0 := crash_o (O.out.alloc (.cells #[.int .i64 (t : Nat)] 3)) _ _ (row_one _ t) (-1) 0 (by omega) (by simp)
            generalize d2.crash [(t : Int)] (-1) 0 = d3 at k1 k2 k3 k4 k5 k6 CC0
            have CC : Hid _ := CC0
            clear CC0
            go_wp2_with fail
            refine Calls.mono CC.out ?_
            rintro e w8 ⟨rfl, o8⟩
            have CC0 := read_o o8 1
            rw [k3, k4] at CC0
            generalize (d3.get 1).2 = d4 at k5 k6 CC0
            have CC2 : Hid _ := CC0
            clear CC0 o8 CC
            go_wp2_with fail
            refine Calls.mono CC2.out ?_
            rintro e w9 ⟨rfl, o9⟩
            have O9 : Hid (One w.heap.size w w9 b d4) := o9
            have CD : Hid _ := down_o o9
            have CP : Hid _ := pending_o o9
            clear o9 CC2
            go_wp2_with fail
            refine Calls.mono CD.out ?_
            rintro e w10 ⟨rfl, rfl⟩
            go_wp2_with fail
            refine Calls.mono CP.out ?_
            rintro e w10 ⟨rfl, rfl⟩
            go_wp2_with fail
            refine Calls.mono (page_o 3 (by decide) _) ?_
            rintro e w11 ⟨rfl, l11⟩
            have O11 : Hid (One w.heap.size w w11 b d4) := O9.out.below l11
            clear l11
            go_wp2
            go_ret
            exact ⟨rfl, O11.out.2.1⟩

end Go.Proofs.Ytnmmikgmhoecpaa

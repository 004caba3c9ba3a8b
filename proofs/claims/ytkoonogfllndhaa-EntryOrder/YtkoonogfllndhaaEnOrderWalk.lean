/-
  The walk of EntryOrder.
-/
import Derived.Test.YtkoonogfllndhaaEnKeep
import Derived.Test.YtkoonogfllndhaaEnOpen
import Derived.Test.YtkoonogfllndhaaEnRef
namespace Go.Proofs.Ytkoonogfllndhaa
open Go.Shelf Go.RowKit Go.Lib Go.Sort

set_option maxHeartbeats 4000000 in
set_option maxRecDepth 100000 in
theorem entryOrder_walk (v : Value) (l : List En) (fr : Int) (w : World) (h : RowN w v l) (hfr : -9223372036854775808 ≤ fr ∧ fr ≤ 9223372036854775807) :
    Calls Try.prog 8 #[v, .int .i64 fr] w fun e w' => e = .returned (.bool true) ∧ Below w.heap.size w w' := by
  obtain ⟨hr, hln⟩ := h
  obtain ⟨ao, cap, rfl, hcap⟩ := hr.shape
  have R0l : Aside (Row encP 2 w (.slice ao l.length cap) l) := hr
  clear hr
  have RK : Aside (Row encP 2 w (.slice ao l.length cap) l) := R0l.out
  go_enter Try.func8, Try.ntmps8
  have C1x : Hid _ := works_any w
  go_wp2_with fail
  refine Calls.mono C1x.out ?_
  rintro e w1 ⟨rfl, hb1⟩
  clear C1x
  have B1 : Hid (Below w.heap.size w w1) := hb1
  have R1l : Aside (Row encP 2 w1 (.slice ao l.length cap) l) := R0l.out.below hb1
  clear R0l
  clear hb1
  have C2xx : Hid _ := over_any _ l w1 R1l.out
  go_wp2_with fail
  refine Calls.mono C2xx.out ?_
  rintro e w2x ⟨rfl, rfl⟩
  clear C2xx
  have C2xxx : Hid _ := rright_any _ l w1 R1l.out hln
  go_wp2_with fail
  refine Calls.mono C2xxx.out ?_
  rintro e w2 ⟨rfl, hb2⟩
  clear C2xxx
  have B2 : Hid (Below w.heap.size w w2) := B1.out.trans (hb2.mono B1.out.size)
  have R2l : Aside (Row encP 2 w2 (.slice ao l.length cap) l) := R1l.out.below hb2
  clear R1l
  clear hb2
  cases ho : ovB l with
  | true =>
    clear ho
    generalize rgB l = rl at *
    go_wp2
    go_ret
    exact ⟨rfl, B2.out⟩
  | false =>
    obtain ⟨hl60, _⟩ := ovB_no ho
    clear ho
    cases hr : rgB l with
    | false =>
      clear hr
      go_wp2
      go_ret
      exact ⟨rfl, B2.out⟩
    | true =>
      have RG : Hid (Rg l) := rg_of hr
      clear hr
      by_cases h0 : l.length = 0
      ·
        have h0z : ((l.length : Int) == 0) = true := by rw [beq_iff_eq]; omega
        go_wp2
        go_ret
        exact ⟨rfl, B2.out⟩
      ·
        have h0z : ((l.length : Int) == 0) = false := by rw [beq_eq_false_iff_ne]; omega
        obtain ⟨k, hk⟩ : ∃ k : Nat, min (max fr 0) ((l.length : Int) - 1) = (k : Int) := ⟨(min (max fr 0) ((l.length : Int) - 1)).toNat, by omega⟩
        have hkl : k < l.length := by omega
        clear R2l
        go_wp2
        go_loopg [9, 10, 11] l.length (fun kx s9 s10 s11 wr => ∃ (i : Nat) (a1 a2 : Option Addr) (n1 n2 c1 c2 : Nat) (A B : List En), s9 = .slice a1 n1 c1 ∧ s10 = .slice a2 n2 c2 ∧ s11 = .int .i64 i ∧ i ≤ l.length ∧ l.length - i ≤ kx ∧ A.length ≤ i ∧ B.length ≤ i ∧ Hid (PtI l (fun j => (k + j) % l.length) i A) ∧ Hid (PtI l (fun j => l.length - 1 - j) i B) ∧ Aside (Row encP 2 wr (.slice a1 n1 c1) A) ∧ Aside (Row encP 2 wr (.slice a2 n2 c2) B) ∧ Hid (Below w.heap.size w wr))
        case atStart => exact ⟨0, none, none, 0, 0, 0, 0, [], [], rfl, rfl, rfl, Nat.zero_le _, Nat.le_refl _, Nat.le_refl _, Nat.le_refl _, PtI.zero _ _, PtI.zero _ _, (Own.nil (base := 0)).row, (Own.nil (base := 0)).row, B2⟩
        case round =>
          obtain ⟨i, a1, a2, n1, n2, c1, c2, A, B, rfl, rfl, rfl, hi, hki, hAl, hBl, PA, PB, RA, RB, HB⟩ := hrel
          by_cases hil : i < l.length
          ·
            have hilz : (i : Int) < (l.length : Int) := by omega
            obtain ⟨p, hp⟩ : ∃ p, (k + i) % l.length = p := ⟨_, rfl⟩
            have hpl : p < l.length := by rw [← hp]; exact Nat.mod_lt _ (by omega)
            have hpz : ((k : Int) + (i : Int)) % (l.length : Int) = (p : Int) := by rw [← hp]; simp
            have hpz2 : ((k : Int) + (i : Int)).tmod (l.length : Int) = (p : Int) := by rw [Int.tmod_eq_emod_of_nonneg (by omega)]; exact hpz
            have hplz : (p : Int) < (l.length : Int) := by omega
            obtain ⟨q, hq⟩ : ∃ q, l.length - 1 - i = q := ⟨_, rfl⟩
            have hql : q < l.length := by omega
            have hqz : (l.length : Int) - 1 - (i : Int) = (q : Int) := by omega
            have hqlz : (q : Int) < (l.length : Int) := by omega
            have NA := PtI.next RG.out (fun j _ => Nat.mod_lt _ (by omega)) PA.out
            have NB := PtI.next RG.out (fun j _ => by show l.length - 1 - j < l.length; omega) PB.out
            simp only [hp] at NA
            simp only [hq] at NB
            obtain ⟨ao1, cap1, e1, _, _, h3⟩ := RK.out
            cases e1
            obtain ⟨b, off, rfl, hb, x1, x2⟩ := row_at h3 p hpl HB.out
            obtain ⟨b', off', e', _, y1, y2⟩ := row_at h3 q hql HB.out
            cases e'
            clear h3 hp hq
            generalize l[p]! = x at *
            generalize l[q]! = y at *
            have NA2 : Hid (PtI l (fun j => (k + j) % l.length) (i + 1) (puL A x.1 x.2)) := NA
            have NB2 : Hid (PtI l (fun j => l.length - 1 - j) (i + 1) (puL B y.1 y.2)) := NB
            have lA := puL_len A x.1 x.2
            have lB := puL_len B y.1 y.2
            clear NA NB PA PB
            have b1 := HB.out.size
            have K1 : Hid (Cl ((wr.alloc (.cells #[.string x.1, .string x.2] 36)).alloc (.cells #[.string y.1, .string y.2] 36)) wr.heap.size #[.string x.1, .string x.2] 36) := (Cl.new wr _ _).alloc _
            have K2 : Hid (Cl ((wr.alloc (.cells #[.string x.1, .string x.2] 36)).alloc (.cells #[.string y.1, .string y.2] 36)) (wr.heap.size + 1) #[.string y.1, .string y.2] 36) := by
              have := Cl.new (wr.alloc (.cells #[.string x.1, .string x.2] 36)) #[.string y.1, .string y.2] 36
              rw [World.size_alloc] at this
              exact this
            have HBa : Below wr.heap.size wr ((wr.alloc (.cells #[.string x.1, .string x.2] 36)).alloc (.cells #[.string y.1, .string y.2] 36)) := ((Below.refl _ wr).alloc (Nat.le_refl _) _).alloc (by simp) _
            have B2 : Hid (Below w.heap.size w ((wr.alloc (.cells #[.string x.1, .string x.2] 36)).alloc (.cells #[.string y.1, .string y.2] 36))) := HB.out.trans (HBa.mono HB.out.size)
            have RA2 : Aside (Row encP 2 _ (.slice a1 n1 c1) A) := RA.out.below HBa
            have RB2 : Aside (Row encP 2 _ (.slice a2 n2 c2) B) := RB.out.below HBa
            have z1 : (wr.alloc (.cells #[.string x.1, .string x.2] 36)).cell? ⟨b, off + q * 2, none⟩ = some (.string y.1) := Lib.cell?_alloc_some _ y1
            have z2 : (wr.alloc (.cells #[.string x.1, .string x.2] 36)).cell? ⟨b, off + q * 2 + 1, none⟩ = some (.string y.2) := Lib.cell?_alloc_some _ y2
            clear HBa RA RB
            go_upto_region 16 with fail
            generalize (wr.alloc (.cells #[.string x.1, .string x.2] 36)).alloc (.cells #[.string y.1, .string y.2] 36) = W at *
            generalize wr.heap.size = t at *
            clear x1 x2 y1 y2 z1 z2
            obtain ⟨u1, u2⟩ := K1.out.two
            have lt1 := K1.out.lt
            have CA : Hid _ := eput_any _ A x.1 x.2 W RA2.out (by omega)
            generalize puL A x.1 x.2 = A2 at *
            go_upto_region 17 with (go_at_call 16; refine Calls.mono CA.out ?_; rintro e w3 ⟨v3, rfl, o3, b3⟩)
            obtain ⟨a3, c3, rfl, _⟩ := o3.row.shape
            have B3 : Hid (Below w.heap.size w w3) := B2.out.trans (b3.mono B2.out.size)
            have K3 : Hid (Cl w3 (t + 1) #[.string y.1, .string y.2] 36) := K2.out.on b3
            have RB3 : Aside (Row encP 2 w3 (.slice a2 n2 c2) B) := RB2.out.below b3
            have RA3 : Aside (Row encP 2 w3 (.slice a3 A2.length c3) A2) := o3.row
            clear CA b3 o3 RB2 RA2 K2 K1 u1 u2 lt1
            obtain ⟨u1, u2⟩ := K3.out.two
            have lt1 := K3.out.lt
            have CB : Hid _ := eput_any _ B y.1 y.2 w3 RB3.out (by omega)
            generalize puL B y.1 y.2 = B4 at *
            go_upto_region 13 with (go_at_call 16; refine Calls.mono CB.out ?_; rintro e w4 ⟨v4, rfl, o4, b4⟩)
            obtain ⟨a4, c4, rfl, _⟩ := o4.row.shape
            have HB4 : Hid (Below w.heap.size w w4) := B3.out.trans (b4.mono B3.out.size)
            have RA4 : Aside (Row encP 2 w4 (.slice a3 A2.length c3) A2) := RA3.out.below b4
            have RB4 : Aside (Row encP 2 w4 (.slice a4 B4.length c4) B4) := o4.row
            clear CB b4 o4 RB3 RA3 K3 u1 u2 lt1 B3 B2
            go_wp2
            go_roundg (l.length - (i + 1))
            case measure => omega
            case rel => exact ⟨i + 1, a3, a4, _, _, c3, c4, A2, B4, rfl, rfl, by go_num, by omega, Nat.le_refl _, by omega, by omega, NA2, NB2, RA4, RB4, HB4⟩
          ·
            have hilz : ¬ (i : Int) < (l.length : Int) := by omega
            obtain rfl : i = l.length := by omega
            have EA := PtI.all RG.out (fun j _ => Nat.mod_lt _ (by omega)) (turn_all hkl) PA.out
            have EB := PtI.all RG.out (fun j _ => by show l.length - 1 - j < l.length; omega) back_all PB.out
            rw [EA] at RA
            rw [EB] at RB
            clear EA EB PA PB
            have RL : Aside (Row encP 2 wr (.slice ao l.length cap) l) := RK.out.below HB.out
            have C21x : Hid _ := same_any _ _ l l wr RA.out RL.out (by omega) (by omega)
            rw [decide_eq_true (rfl : l = l)] at C21x
            go_wp2_with fail
            refine Calls.mono C21x.out ?_
            rintro e w21 ⟨rfl, hb21⟩
            clear C21x
            have B21 : Hid (Below w.heap.size w w21) := HB.out.trans (hb21.mono HB.out.size)
            have R21a : Aside (Row encP 2 w21 (.slice a1 n1 c1) l) := RA.out.below hb21
            clear RA
            have R21b : Aside (Row encP 2 w21 (.slice a2 n2 c2) l) := RB.out.below hb21
            clear RB
            have R21l : Aside (Row encP 2 w21 (.slice ao l.length cap) l) := RL.out.below hb21
            clear RL
            clear hb21
            have C22xx : Hid _ := same_any _ _ l l w21 R21b.out R21l.out (by omega) (by omega)
            rw [decide_eq_true (rfl : l = l)] at C22xx
            go_wp2_with fail
            refine Calls.mono C22xx.out ?_
            rintro e w22 ⟨rfl, hb22⟩
            clear C22xx
            have B22 : Hid (Below w.heap.size w w22) := B21.out.trans (hb22.mono B21.out.size)
            have R22a : Aside (Row encP 2 w22 (.slice a1 n1 c1) l) := R21a.out.below hb22
            clear R21a
            have R22b : Aside (Row encP 2 w22 (.slice a2 n2 c2) l) := R21b.out.below hb22
            clear R21b
            have R22l : Aside (Row encP 2 w22 (.slice ao l.length cap) l) := R21l.out.below hb22
            clear R21l
            clear hb22
            go_wp2
            go_ret
            exact ⟨rfl, B22.out⟩

end Go.Proofs.Ytkoonogfllndhaa

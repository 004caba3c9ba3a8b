/-
  The walk of the law RunsLaws.
-/
import Derived.Test.YtoigljefajbofaaRnLaw
namespace Go.Proofs.Ytoigljefajbofaa
open Go.Shelf Go.RowKit Go.Lib Go.Sort

set_option maxRecDepth 100000 in
set_option maxHeartbeats 4000000 in
theorem laws.long_a (va : Value) (a : List Pr) (vb : Value) (b : List Pr) (vc : Value) (c : List Pr) (w : World) (ha : Row encP 2 w va a) (hb : Row encP 2 w vb b) (hc : Row encP 2 w vc c) (la : 40 < a.length) : Calls Try.prog 7 #[va, vb, vc] w fun e w' => e = .returned (.bool true) ∧ Below w.heap.size w w' := by
  obtain ⟨aoa, capa, rfl, _⟩ := id ha
  obtain ⟨aob, capb, rfl, _⟩ := id hb
  obtain ⟨aoc, capc, rfl, _⟩ := id hc
  have ia : (40 : Int) < (a.length : Int) := by omega
  clear ha hb hc
  go_enter Try.func7, Try.ntmps7
  go_wp2_with fail
  refine (works_any _).mono ?_
  rintro e w1 ⟨rfl, b1⟩
  go_wp2
  go_ret
  exact ⟨rfl, b1⟩

set_option maxRecDepth 100000 in
set_option maxHeartbeats 4000000 in
theorem laws.long_b (va : Value) (a : List Pr) (vb : Value) (b : List Pr) (vc : Value) (c : List Pr) (w : World) (ha : Row encP 2 w va a) (hb : Row encP 2 w vb b) (hc : Row encP 2 w vc c) (la : a.length ≤ 40) (lb : 40 < b.length) : Calls Try.prog 7 #[va, vb, vc] w fun e w' => e = .returned (.bool true) ∧ Below w.heap.size w w' := by
  obtain ⟨aoa, capa, rfl, _⟩ := id ha
  obtain ⟨aob, capb, rfl, _⟩ := id hb
  obtain ⟨aoc, capc, rfl, _⟩ := id hc
  have ia : ¬ (40 : Int) < (a.length : Int) := by omega
  have ib : (40 : Int) < (b.length : Int) := by omega
  clear ha hb hc
  go_enter Try.func7, Try.ntmps7
  go_wp2_with fail
  refine (works_any _).mono ?_
  rintro e w1 ⟨rfl, b1⟩
  go_wp2
  go_ret
  exact ⟨rfl, b1⟩

set_option maxRecDepth 100000 in
set_option maxHeartbeats 4000000 in
theorem laws.long_c (va : Value) (a : List Pr) (vb : Value) (b : List Pr) (vc : Value) (c : List Pr) (w : World) (ha : Row encP 2 w va a) (hb : Row encP 2 w vb b) (hc : Row encP 2 w vc c) (la : a.length ≤ 40) (lb : b.length ≤ 40) (lc : 40 < c.length) : Calls Try.prog 7 #[va, vb, vc] w fun e w' => e = .returned (.bool true) ∧ Below w.heap.size w w' := by
  obtain ⟨aoa, capa, rfl, _⟩ := id ha
  obtain ⟨aob, capb, rfl, _⟩ := id hb
  obtain ⟨aoc, capc, rfl, _⟩ := id hc
  have ia : ¬ (40 : Int) < (a.length : Int) := by omega
  have ib : ¬ (40 : Int) < (b.length : Int) := by omega
  have ic : (40 : Int) < (c.length : Int) := by omega
  clear ha hb hc
  go_enter Try.func7, Try.ntmps7
  go_wp2_with fail
  refine (works_any _).mono ?_
  rintro e w1 ⟨rfl, b1⟩
  go_wp2
  go_ret
  exact ⟨rfl, b1⟩

set_option maxRecDepth 100000 in
set_option maxHeartbeats 4000000 in
theorem laws.short (va : Value) (a : List Pr) (vb : Value) (b : List Pr) (vc : Value) (c : List Pr) (w : World) (ha : Row encP 2 w va a) (hb : Row encP 2 w vb b) (hc : Row encP 2 w vc c) (la : a.length ≤ 40) (lb : b.length ≤ 40) (lc : c.length ≤ 40) : Calls Try.prog 7 #[va, vb, vc] w fun e w' => e = .returned (.bool true) ∧ Below w.heap.size w w' := by
  have Ra0 : Hid (Row encP 2 w va a) := ha
  obtain ⟨aoa, capa, rfl, _⟩ := id ha
  have Rb0 : Hid (Row encP 2 w vb b) := hb
  obtain ⟨aob, capb, rfl, _⟩ := id hb
  have Rc0 : Hid (Row encP 2 w vc c) := hc
  obtain ⟨aoc, capc, rfl, _⟩ := id hc
  clear ha hb hc
  have B0 : Hid (Below w.heap.size w w) := Below.refl _ _
  have ia : ¬ (40 : Int) < (a.length : Int) := by omega
  have ib : ¬ (40 : Int) < (b.length : Int) := by omega
  have ic : ¬ (40 : Int) < (c.length : Int) := by omega
  go_enter Try.func7, Try.ntmps7
  have C1 : Hid (Calls Try.prog 9 #[] w fun e w' => e = .returned (.bool true) ∧ Below w.heap.size w w') := works_any w
  go_wp2_with fail
  refine Calls.mono C1.out ?_
  rintro e w1 ⟨rfl, b1⟩
  clear C1
  have Ra1 : Hid (Row encP 2 w1 _ a) := Ra0.out.below b1
  have Rb1 : Hid (Row encP 2 w1 _ b) := Rb0.out.below b1
  have Rc1 : Hid (Row encP 2 w1 _ c) := Rc0.out.below b1
  have B1 : Hid (Below w.heap.size w w1) := B0.out.trans (b1.mono B0.out.size)
  clear Ra0 Rb0 Rc0 B0
  clear b1
  have C2 : Hid (Calls Try.prog 15 #[.slice aoa a.length capa, .slice aob b.length capb] w1 (Gives w1 (mnL a b))) := by
    show Calls _ _ _ _ _
    have := minus_g _ _ a b w1 Ra1.out Rb1.out (by omega)
    exact this
  go_wp2_with fail
  refine Calls.mono C2.out ?_
  rintro e w2 ⟨aor1, nr1, cr1, rfl, rr1, b2⟩
  obtain ⟨_, _, kr1, _⟩ := id rr1
  cases kr1
  clear C2
  have Ra2 : Hid (Row encP 2 w2 _ a) := Ra1.out.below b2
  have Rb2 : Hid (Row encP 2 w2 _ b) := Rb1.out.below b2
  have Rc2 : Hid (Row encP 2 w2 _ c) := Rc1.out.below b2
  have B2 : Hid (Below w.heap.size w w2) := B1.out.trans (b2.mono B1.out.size)
  clear Ra1 Rb1 Rc1 B1
  clear b2
  have Rr12 : Hid (Row encP 2 w2 _ (mnL a b)) := rr1
  clear rr1
  have C3 : Hid (Calls Try.prog 15 #[.slice aor1 (mnL a b).length cr1, .slice aoc c.length capc] w2 (Gives w2 (mnL (mnL a b) c))) := by
    show Calls _ _ _ _ _
    have := minus_g _ _ (mnL a b) c w2 Rr12.out Rc2.out (by have := mnL_length a b; omega)
    exact this
  go_wp2_with fail
  refine Calls.mono C3.out ?_
  rintro e w3 ⟨aor2, nr2, cr2, rfl, rr2, b3⟩
  obtain ⟨_, _, kr2, _⟩ := id rr2
  cases kr2
  clear C3
  have Ra3 : Hid (Row encP 2 w3 _ a) := Ra2.out.below b3
  have Rb3 : Hid (Row encP 2 w3 _ b) := Rb2.out.below b3
  have Rc3 : Hid (Row encP 2 w3 _ c) := Rc2.out.below b3
  have Rr13 : Hid (Row encP 2 w3 _ (mnL a b)) := Rr12.out.below b3
  have B3 : Hid (Below w.heap.size w w3) := B2.out.trans (b3.mono B2.out.size)
  clear Ra2 Rb2 Rc2 Rr12 B2
  clear b3
  have Rr23 : Hid (Row encP 2 w3 _ (mnL (mnL a b) c)) := rr2
  clear rr2
  clear Rr13
  have C4 : Hid (Calls Try.prog 13 #[.slice aob b.length capb, .slice aoc c.length capc] w3 (Gives w3 (unL b c))) := by
    show Calls _ _ _ _ _
    have := union_g _ _ b c w3 Rb3.out Rc3.out (by omega)
    exact this
  go_wp2_with fail
  refine Calls.mono C4.out ?_
  rintro e w4 ⟨aor3, nr3, cr3, rfl, rr3, b4⟩
  obtain ⟨_, _, kr3, _⟩ := id rr3
  cases kr3
  clear C4
  have Ra4 : Hid (Row encP 2 w4 _ a) := Ra3.out.below b4
  have Rb4 : Hid (Row encP 2 w4 _ b) := Rb3.out.below b4
  have Rc4 : Hid (Row encP 2 w4 _ c) := Rc3.out.below b4
  have Rr24 : Hid (Row encP 2 w4 _ (mnL (mnL a b) c)) := Rr23.out.below b4
  have B4 : Hid (Below w.heap.size w w4) := B3.out.trans (b4.mono B3.out.size)
  clear Ra3 Rb3 Rc3 Rr23 B3
  clear b4
  have Rr34 : Hid (Row encP 2 w4 _ (unL b c)) := rr3
  clear rr3
  have C5 : Hid (Calls Try.prog 15 #[.slice aoa a.length capa, .slice aor3 (unL b c).length cr3] w4 (Gives w4 (mnL a (unL b c)))) := by
    show Calls _ _ _ _ _
    have := minus_g _ _ a (unL b c) w4 Ra4.out Rr34.out (by have := unL_length b c; omega)
    exact this
  go_wp2_with fail
  refine Calls.mono C5.out ?_
  rintro e w5 ⟨aor4, nr4, cr4, rfl, rr4, b5⟩
  obtain ⟨_, _, kr4, _⟩ := id rr4
  cases kr4
  clear C5
  have Ra5 : Hid (Row encP 2 w5 _ a) := Ra4.out.below b5
  have Rb5 : Hid (Row encP 2 w5 _ b) := Rb4.out.below b5
  have Rc5 : Hid (Row encP 2 w5 _ c) := Rc4.out.below b5
  have Rr25 : Hid (Row encP 2 w5 _ (mnL (mnL a b) c)) := Rr24.out.below b5
  have Rr35 : Hid (Row encP 2 w5 _ (unL b c)) := Rr34.out.below b5
  have B5 : Hid (Below w.heap.size w w5) := B4.out.trans (b5.mono B4.out.size)
  clear Ra4 Rb4 Rc4 Rr24 Rr34 B4
  clear b5
  have Rr45 : Hid (Row encP 2 w5 _ (mnL a (unL b c))) := rr4
  clear rr4
  clear Rr35
  have C6 : Hid (Calls Try.prog 10 #[.slice aor2 (mnL (mnL a b) c).length cr2, .slice aor4 (mnL a (unL b c)).length cr4] w5 fun e w' => e = .returned (.bool true) ∧ Below w5.heap.size w5 w') := same_eq _ _ (mnL (mnL a b) c) (mnL a (unL b c)) w5 Rr25.out Rr45.out (by have := mnL_length a b; have := mnL_length (mnL a b) c; omega) (mn_mn a b c)
  go_wp2_with fail
  refine Calls.mono C6.out ?_
  rintro e w6 ⟨rfl, b6⟩
  clear C6
  have Ra6 : Hid (Row encP 2 w6 _ a) := Ra5.out.below b6
  have Rb6 : Hid (Row encP 2 w6 _ b) := Rb5.out.below b6
  have Rc6 : Hid (Row encP 2 w6 _ c) := Rc5.out.below b6
  have Rr26 : Hid (Row encP 2 w6 _ (mnL (mnL a b) c)) := Rr25.out.below b6
  have Rr46 : Hid (Row encP 2 w6 _ (mnL a (unL b c))) := Rr45.out.below b6
  have B6 : Hid (Below w.heap.size w w6) := B5.out.trans (b6.mono B5.out.size)
  clear Ra5 Rb5 Rc5 Rr25 Rr45 B5
  clear b6
  clear Rr26 Rr46
  have C7 : Hid (Calls Try.prog 16 #[.slice aoa a.length capa, .slice aob b.length capb] w6 (Gives w6 (meL a b))) := by
    show Calls _ _ _ _ _
    have := meet_g _ _ a b w6 Ra6.out Rb6.out (by omega)
    exact this
  go_wp2_with fail
  refine Calls.mono C7.out ?_
  rintro e w7 ⟨aos1, ns1, cs1, rfl, rs1, b7⟩
  obtain ⟨_, _, ks1, _⟩ := id rs1
  cases ks1
  clear C7
  have Ra7 : Hid (Row encP 2 w7 _ a) := Ra6.out.below b7
  have Rb7 : Hid (Row encP 2 w7 _ b) := Rb6.out.below b7
  have Rc7 : Hid (Row encP 2 w7 _ c) := Rc6.out.below b7
  have B7 : Hid (Below w.heap.size w w7) := B6.out.trans (b7.mono B6.out.size)
  clear Ra6 Rb6 Rc6 B6
  clear b7
  have Rs17 : Hid (Row encP 2 w7 _ (meL a b)) := rs1
  clear rs1
  have C8 : Hid (Calls Try.prog 15 #[.slice aoa a.length capa, .slice aob b.length capb] w7 (Gives w7 (mnL a b))) := by
    show Calls _ _ _ _ _
    have := minus_g _ _ a b w7 Ra7.out Rb7.out (by omega)
    exact this
  go_wp2_with fail
  refine Calls.mono C8.out ?_
  rintro e w8 ⟨aos2, ns2, cs2, rfl, rs2, b8⟩
  obtain ⟨_, _, ks2, _⟩ := id rs2
  cases ks2
  clear C8
  have Ra8 : Hid (Row encP 2 w8 _ a) := Ra7.out.below b8
  have Rb8 : Hid (Row encP 2 w8 _ b) := Rb7.out.below b8
  have Rc8 : Hid (Row encP 2 w8 _ c) := Rc7.out.below b8
  have Rs18 : Hid (Row encP 2 w8 _ (meL a b)) := Rs17.out.below b8
  have B8 : Hid (Below w.heap.size w w8) := B7.out.trans (b8.mono B7.out.size)
  clear Ra7 Rb7 Rc7 Rs17 B7
  clear b8
  have Rs28 : Hid (Row encP 2 w8 _ (mnL a b)) := rs2
  clear rs2
  have C9 : Hid (Calls Try.prog 15 #[.slice aoa a.length capa, .slice aos2 (mnL a b).length cs2] w8 (Gives w8 (mnL a (mnL a b)))) := by
    show Calls _ _ _ _ _
    have := minus_g _ _ a (mnL a b) w8 Ra8.out Rs28.out (by have := mnL_length a b; omega)
    exact this
  go_wp2_with fail
  refine Calls.mono C9.out ?_
  rintro e w9 ⟨aos3, ns3, cs3, rfl, rs3, b9⟩
  obtain ⟨_, _, ks3, _⟩ := id rs3
  cases ks3
  clear C9
  have Ra9 : Hid (Row encP 2 w9 _ a) := Ra8.out.below b9
  have Rb9 : Hid (Row encP 2 w9 _ b) := Rb8.out.below b9
  have Rc9 : Hid (Row encP 2 w9 _ c) := Rc8.out.below b9
  have Rs19 : Hid (Row encP 2 w9 _ (meL a b)) := Rs18.out.below b9
  have Rs29 : Hid (Row encP 2 w9 _ (mnL a b)) := Rs28.out.below b9
  have B9 : Hid (Below w.heap.size w w9) := B8.out.trans (b9.mono B8.out.size)
  clear Ra8 Rb8 Rc8 Rs18 Rs28 B8
  clear b9
  have Rs39 : Hid (Row encP 2 w9 _ (mnL a (mnL a b))) := rs3
  clear rs3
  clear Rs29
  have C10 : Hid (Calls Try.prog 10 #[.slice aos1 (meL a b).length cs1, .slice aos3 (mnL a (mnL a b)).length cs3] w9 fun e w' => e = .returned (.bool true) ∧ Below w9.heap.size w9 w') := same_eq _ _ (meL a b) (mnL a (mnL a b)) w9 Rs19.out Rs39.out (by have := meL_length a b; omega) (rfl)
  go_wp2_with fail
  refine Calls.mono C10.out ?_
  rintro e w10 ⟨rfl, b10⟩
  clear C10
  have Ra10 : Hid (Row encP 2 w10 _ a) := Ra9.out.below b10
  have Rb10 : Hid (Row encP 2 w10 _ b) := Rb9.out.below b10
  have Rc10 : Hid (Row encP 2 w10 _ c) := Rc9.out.below b10
  have Rs110 : Hid (Row encP 2 w10 _ (meL a b)) := Rs19.out.below b10
  have Rs310 : Hid (Row encP 2 w10 _ (mnL a (mnL a b))) := Rs39.out.below b10
  have B10 : Hid (Below w.heap.size w w10) := B9.out.trans (b10.mono B9.out.size)
  clear Ra9 Rb9 Rc9 Rs19 Rs39 B9
  clear b10
  clear Rs110 Rs310
  have C11 : Hid (Calls Try.prog 13 #[.slice aob b.length capb, .slice aoc c.length capc] w10 (Gives w10 (unL b c))) := by
    show Calls _ _ _ _ _
    have := union_g _ _ b c w10 Rb10.out Rc10.out (by omega)
    exact this
  go_wp2_with fail
  refine Calls.mono C11.out ?_
  rintro e w11 ⟨aot1, nt1, ct1, rfl, rt1, b11⟩
  obtain ⟨_, _, kt1, _⟩ := id rt1
  cases kt1
  clear C11
  have Ra11 : Hid (Row encP 2 w11 _ a) := Ra10.out.below b11
  have Rb11 : Hid (Row encP 2 w11 _ b) := Rb10.out.below b11
  have Rc11 : Hid (Row encP 2 w11 _ c) := Rc10.out.below b11
  have B11 : Hid (Below w.heap.size w w11) := B10.out.trans (b11.mono B10.out.size)
  clear Ra10 Rb10 Rc10 B10
  clear b11
  have Rt111 : Hid (Row encP 2 w11 _ (unL b c)) := rt1
  clear rt1
  have C12 : Hid (Calls Try.prog 13 #[.slice aoa a.length capa, .slice aot1 (unL b c).length ct1] w11 (Gives w11 (unL a (unL b c)))) := by
    show Calls _ _ _ _ _
    have := union_g _ _ a (unL b c) w11 Ra11.out Rt111.out (by have := unL_length b c; omega)
    exact this
  go_wp2_with fail
  refine Calls.mono C12.out ?_
  rintro e w12 ⟨aot2, nt2, ct2, rfl, rt2, b12⟩
  obtain ⟨_, _, kt2, _⟩ := id rt2
  cases kt2
  clear C12
  have Ra12 : Hid (Row encP 2 w12 _ a) := Ra11.out.below b12
  have Rb12 : Hid (Row encP 2 w12 _ b) := Rb11.out.below b12
  have Rc12 : Hid (Row encP 2 w12 _ c) := Rc11.out.below b12
  have Rt112 : Hid (Row encP 2 w12 _ (unL b c)) := Rt111.out.below b12
  have B12 : Hid (Below w.heap.size w w12) := B11.out.trans (b12.mono B11.out.size)
  clear Ra11 Rb11 Rc11 Rt111 B11
  clear b12
  have Rt212 : Hid (Row encP 2 w12 _ (unL a (unL b c))) := rt2
  clear rt2
  clear Rt112
  have C13 : Hid (Calls Try.prog 13 #[.slice aoa a.length capa, .slice aob b.length capb] w12 (Gives w12 (unL a b))) := by
    show Calls _ _ _ _ _
    have := union_g _ _ a b w12 Ra12.out Rb12.out (by omega)
    exact this
  go_wp2_with fail
  refine Calls.mono C13.out ?_
  rintro e w13 ⟨aot3, nt3, ct3, rfl, rt3, b13⟩
  obtain ⟨_, _, kt3, _⟩ := id rt3
  cases kt3
  clear C13
  have Ra13 : Hid (Row encP 2 w13 _ a) := Ra12.out.below b13
  have Rb13 : Hid (Row encP 2 w13 _ b) := Rb12.out.below b13
  have Rc13 : Hid (Row encP 2 w13 _ c) := Rc12.out.below b13
  have Rt213 : Hid (Row encP 2 w13 _ (unL a (unL b c))) := Rt212.out.below b13
  have B13 : Hid (Below w.heap.size w w13) := B12.out.trans (b13.mono B12.out.size)
  clear Ra12 Rb12 Rc12 Rt212 B12
  clear b13
  have Rt313 : Hid (Row encP 2 w13 _ (unL a b)) := rt3
  clear rt3
  have C14 : Hid (Calls Try.prog 13 #[.slice aot3 (unL a b).length ct3, .slice aoc c.length capc] w13 (Gives w13 (unL (unL a b) c))) := by
    show Calls _ _ _ _ _
    have := union_g _ _ (unL a b) c w13 Rt313.out Rc13.out (by have := unL_length a b; omega)
    exact this
  go_wp2_with fail
  refine Calls.mono C14.out ?_
  rintro e w14 ⟨aot4, nt4, ct4, rfl, rt4, b14⟩
  obtain ⟨_, _, kt4, _⟩ := id rt4
  cases kt4
  clear C14
  have Ra14 : Hid (Row encP 2 w14 _ a) := Ra13.out.below b14
  have Rb14 : Hid (Row encP 2 w14 _ b) := Rb13.out.below b14
  have Rc14 : Hid (Row encP 2 w14 _ c) := Rc13.out.below b14
  have Rt214 : Hid (Row encP 2 w14 _ (unL a (unL b c))) := Rt213.out.below b14
  have Rt314 : Hid (Row encP 2 w14 _ (unL a b)) := Rt313.out.below b14
  have B14 : Hid (Below w.heap.size w w14) := B13.out.trans (b14.mono B13.out.size)
  clear Ra13 Rb13 Rc13 Rt213 Rt313 B13
  clear b14
  have Rt414 : Hid (Row encP 2 w14 _ (unL (unL a b) c)) := rt4
  clear rt4
  clear Rt314
  have C15 : Hid (Calls Try.prog 10 #[.slice aot2 (unL a (unL b c)).length ct2, .slice aot4 (unL (unL a b) c).length ct4] w14 fun e w' => e = .returned (.bool true) ∧ Below w14.heap.size w14 w') := same_eq _ _ (unL a (unL b c)) (unL (unL a b) c) w14 Rt214.out Rt414.out (by have := unL_length b c; have := unL_length a (unL b c); omega) (un_un a b c)
  go_wp2_with fail
  refine Calls.mono C15.out ?_
  rintro e w15 ⟨rfl, b15⟩
  clear C15
  have Ra15 : Hid (Row encP 2 w15 _ a) := Ra14.out.below b15
  have Rb15 : Hid (Row encP 2 w15 _ b) := Rb14.out.below b15
  have Rc15 : Hid (Row encP 2 w15 _ c) := Rc14.out.below b15
  have Rt215 : Hid (Row encP 2 w15 _ (unL a (unL b c))) := Rt214.out.below b15
  have Rt415 : Hid (Row encP 2 w15 _ (unL (unL a b) c)) := Rt414.out.below b15
  have B15 : Hid (Below w.heap.size w w15) := B14.out.trans (b15.mono B14.out.size)
  clear Ra14 Rb14 Rc14 Rt214 Rt414 B14
  clear b15
  clear Rt215 Rt415
  have C16 : Hid (Calls Try.prog 13 #[.slice aob b.length capb, .slice aoc c.length capc] w15 (Gives w15 (unL b c))) := by
    show Calls _ _ _ _ _
    have := union_g _ _ b c w15 Rb15.out Rc15.out (by omega)
    exact this
  go_wp2_with fail
  refine Calls.mono C16.out ?_
  rintro e w16 ⟨aou1, nu1, cu1, rfl, ru1, b16⟩
  obtain ⟨_, _, ku1, _⟩ := id ru1
  cases ku1
  clear C16
  have Ra16 : Hid (Row encP 2 w16 _ a) := Ra15.out.below b16
  have Rb16 : Hid (Row encP 2 w16 _ b) := Rb15.out.below b16
  have Rc16 : Hid (Row encP 2 w16 _ c) := Rc15.out.below b16
  have B16 : Hid (Below w.heap.size w w16) := B15.out.trans (b16.mono B15.out.size)
  clear Ra15 Rb15 Rc15 B15
  clear b16
  have Ru116 : Hid (Row encP 2 w16 _ (unL b c)) := ru1
  clear ru1
  have C17 : Hid (Calls Try.prog 16 #[.slice aoa a.length capa, .slice aou1 (unL b c).length cu1] w16 (Gives w16 (meL a (unL b c)))) := by
    show Calls _ _ _ _ _
    have := meet_g _ _ a (unL b c) w16 Ra16.out Ru116.out (by have := unL_length b c; omega)
    exact this
  go_wp2_with fail
  refine Calls.mono C17.out ?_
  rintro e w17 ⟨aou2, nu2, cu2, rfl, ru2, b17⟩
  obtain ⟨_, _, ku2, _⟩ := id ru2
  cases ku2
  clear C17
  have Ra17 : Hid (Row encP 2 w17 _ a) := Ra16.out.below b17
  have Rb17 : Hid (Row encP 2 w17 _ b) := Rb16.out.below b17
  have Rc17 : Hid (Row encP 2 w17 _ c) := Rc16.out.below b17
  have Ru117 : Hid (Row encP 2 w17 _ (unL b c)) := Ru116.out.below b17
  have B17 : Hid (Below w.heap.size w w17) := B16.out.trans (b17.mono B16.out.size)
  clear Ra16 Rb16 Rc16 Ru116 B16
  clear b17
  have Ru217 : Hid (Row encP 2 w17 _ (meL a (unL b c))) := ru2
  clear ru2
  clear Ru117
  have C18 : Hid (Calls Try.prog 16 #[.slice aoa a.length capa, .slice aob b.length capb] w17 (Gives w17 (meL a b))) := by
    show Calls _ _ _ _ _
    have := meet_g _ _ a b w17 Ra17.out Rb17.out (by omega)
    exact this
  go_wp2_with fail
  refine Calls.mono C18.out ?_
  rintro e w18 ⟨aou3, nu3, cu3, rfl, ru3, b18⟩
  obtain ⟨_, _, ku3, _⟩ := id ru3
  cases ku3
  clear C18
  have Ra18 : Hid (Row encP 2 w18 _ a) := Ra17.out.below b18
  have Rb18 : Hid (Row encP 2 w18 _ b) := Rb17.out.below b18
  have Rc18 : Hid (Row encP 2 w18 _ c) := Rc17.out.below b18
  have Ru218 : Hid (Row encP 2 w18 _ (meL a (unL b c))) := Ru217.out.below b18
  have B18 : Hid (Below w.heap.size w w18) := B17.out.trans (b18.mono B17.out.size)
  clear Ra17 Rb17 Rc17 Ru217 B17
  clear b18
  have Ru318 : Hid (Row encP 2 w18 _ (meL a b)) := ru3
  clear ru3
  have C19 : Hid (Calls Try.prog 16 #[.slice aoa a.length capa, .slice aoc c.length capc] w18 (Gives w18 (meL a c))) := by
    show Calls _ _ _ _ _
    have := meet_g _ _ a c w18 Ra18.out Rc18.out (by omega)
    exact this
  go_wp2_with fail
  refine Calls.mono C19.out ?_
  rintro e w19 ⟨aou4, nu4, cu4, rfl, ru4, b19⟩
  obtain ⟨_, _, ku4, _⟩ := id ru4
  cases ku4
  clear C19
  have Ra19 : Hid (Row encP 2 w19 _ a) := Ra18.out.below b19
  have Rb19 : Hid (Row encP 2 w19 _ b) := Rb18.out.below b19
  have Rc19 : Hid (Row encP 2 w19 _ c) := Rc18.out.below b19
  have Ru219 : Hid (Row encP 2 w19 _ (meL a (unL b c))) := Ru218.out.below b19
  have Ru319 : Hid (Row encP 2 w19 _ (meL a b)) := Ru318.out.below b19
  have B19 : Hid (Below w.heap.size w w19) := B18.out.trans (b19.mono B18.out.size)
  clear Ra18 Rb18 Rc18 Ru218 Ru318 B18
  clear b19
  have Ru419 : Hid (Row encP 2 w19 _ (meL a c)) := ru4
  clear ru4
  have C20 : Hid (Calls Try.prog 13 #[.slice aou3 (meL a b).length cu3, .slice aou4 (meL a c).length cu4] w19 (Gives w19 (unL (meL a b) (meL a c)))) := by
    show Calls _ _ _ _ _
    have := union_g _ _ (meL a b) (meL a c) w19 Ru319.out Ru419.out (by have := meL_length a b; have := meL_length a c; omega)
    exact this
  go_wp2_with fail
  refine Calls.mono C20.out ?_
  rintro e w20 ⟨aou5, nu5, cu5, rfl, ru5, b20⟩
  obtain ⟨_, _, ku5, _⟩ := id ru5
  cases ku5
  clear C20
  have Ra20 : Hid (Row encP 2 w20 _ a) := Ra19.out.below b20
  have Rb20 : Hid (Row encP 2 w20 _ b) := Rb19.out.below b20
  have Rc20 : Hid (Row encP 2 w20 _ c) := Rc19.out.below b20
  have Ru220 : Hid (Row encP 2 w20 _ (meL a (unL b c))) := Ru219.out.below b20
  have Ru320 : Hid (Row encP 2 w20 _ (meL a b)) := Ru319.out.below b20
  have Ru420 : Hid (Row encP 2 w20 _ (meL a c)) := Ru419.out.below b20
  have B20 : Hid (Below w.heap.size w w20) := B19.out.trans (b20.mono B19.out.size)
  clear Ra19 Rb19 Rc19 Ru219 Ru319 Ru419 B19
  clear b20
  have Ru520 : Hid (Row encP 2 w20 _ (unL (meL a b) (meL a c))) := ru5
  clear ru5
  clear Ru320 Ru420
  have C21 : Hid (Calls Try.prog 10 #[.slice aou2 (meL a (unL b c)).length cu2, .slice aou5 (unL (meL a b) (meL a c)).length cu5] w20 fun e w' => e = .returned (.bool true) ∧ Below w20.heap.size w20 w') := same_eq _ _ (meL a (unL b c)) (unL (meL a b) (meL a c)) w20 Ru220.out Ru520.out (by have := unL_length b c; have := meL_length a (unL b c); omega) (me_un a b c)
  go_wp2_with fail
  refine Calls.mono C21.out ?_
  rintro e w21 ⟨rfl, b21⟩
  clear C21
  have Ra21 : Hid (Row encP 2 w21 _ a) := Ra20.out.below b21
  have Rb21 : Hid (Row encP 2 w21 _ b) := Rb20.out.below b21
  have Rc21 : Hid (Row encP 2 w21 _ c) := Rc20.out.below b21
  have Ru221 : Hid (Row encP 2 w21 _ (meL a (unL b c))) := Ru220.out.below b21
  have Ru521 : Hid (Row encP 2 w21 _ (unL (meL a b) (meL a c))) := Ru520.out.below b21
  have B21 : Hid (Below w.heap.size w w21) := B20.out.trans (b21.mono B20.out.size)
  clear Ra20 Rb20 Rc20 Ru220 Ru520 B20
  clear b21
  clear Ru221 Ru521
  go_wp2
  go_ret
  exact ⟨rfl, B21.out⟩

theorem laws (va : Value) (a : List Pr) (vb : Value) (b : List Pr) (vc : Value) (c : List Pr) (w : World) (ha : Row encP 2 w va a) (hb : Row encP 2 w vb b) (hc : Row encP 2 w vc c) : Calls Try.prog 7 #[va, vb, vc] w fun e w' => e = .returned (.bool true) ∧ Below w.heap.size w w' := by
  by_cases la : a.length ≤ 40
  rotate_left
  · exact laws.long_a va a vb b vc c w ha hb hc  (by omega)
  by_cases lb : b.length ≤ 40
  rotate_left
  · exact laws.long_b va a vb b vc c w ha hb hc la (by omega)
  by_cases lc : c.length ≤ 40
  rotate_left
  · exact laws.long_c va a vb b vc c w ha hb hc la lb (by omega)
  exact laws.short va a vb b vc c w ha hb hc la lb lc

end Go.Proofs.Ytoigljefajbofaa

/-
  The walk of ChainBodies.
-/
import Derived.Test.YtnjnggjbeklmpaaChRefP
namespace Go.Proofs.Ytnjnggjbeklmpaa
open Go.Shelf Go.RowKit Go.Lib Go.Sort
set_option linter.unusedVariables false

/-- A row of runs whose numbers are Go's. -/
def RowB (w : World) (v : Value) (l : List Pr) : Prop := Row encP 2 w v l ∧ Wf l

set_option maxHeartbeats 4000000 in
set_option maxRecDepth 100000 in
theorem chainBodies (next : Int) (lv : Value) (l : List Pr) (body : ByteArray) (w : World) (hx : -9223372036854775808 ≤ next ∧ next ≤ 9223372036854775807) (hL : RowB w lv l) (hs : body.size ≤ maxLen) :
    Calls Try.prog 3 #[.int .i64 next, lv, .string body] w fun e w' => e = .returned (.bool true) ∧ Below w.heap.size w w' := by
  obtain ⟨hR, hwf⟩ := hL
  obtain ⟨la, lc, rfl, _⟩ := id hR
  have HR : Aside (Row encP 2 w (.slice la l.length lc) l) := hR
  have CW : Hid _ := works_any w
  have hmx : body.size ≤ 9223372036854775807 := by unfold maxLen at hs; omega
  clear hR
  rcases Classical.em ((100 : Int) < l.length) with h0 | h0
  · go_enter Try.func3, Try.ntmps3
    go_wp2_with fail
    refine Calls.mono CW.out ?_
    rintro e w1 ⟨rfl, b1⟩
    have B1 : Hid (Below w.heap.size w w1) := b1
    clear b1 CW
    go_wp2
    go_ret
    exact ⟨rfl, B1.out⟩
  rcases Classical.em ((1000 : Int) < body.size) with h1 | h1
  · go_enter Try.func3, Try.ntmps3
    go_wp2_with fail
    refine Calls.mono CW.out ?_
    rintro e w1 ⟨rfl, b1⟩
    have B1 : Hid (Below w.heap.size w w1) := b1
    clear b1 CW
    go_wp2
    go_ret
    exact ⟨rfl, B1.out⟩
  have CB : Hid (∀ u, Below w.heap.size w u → _) := fun u hu => body_any next (.slice la l.length lc) l u (HR.out.below hu) (by omega)
  have CR : Hid (∀ u, Below w.heap.size w u → _) := fun u hu => rbody_any next hx.2 (.slice la l.length lc) l u (HR.out.below hu) hwf (by omega)
  have CP : Hid (∀ u, _) := fun u => parse_any body u hs
  have CQ : Hid (∀ u, _) := fun u => rparse_any body u (by omega)
  have G1 : Hid (∀ u, Below w.heap.size w u → _) := fun u hu => pages_any (.slice la l.length lc) l u (HR.out.below hu) (by omega)
  have G2 : Hid (∀ u, Below w.heap.size w u → _) := fun u hu => rpages_any (.slice la l.length lc) l u (HR.out.below hu) (by omega)
  have hpl := prs_runs_length body.data.toList
  have hpe : (prs body.data.toList).2.2 = 0 ∨ (prs body.data.toList).2.2 = 3 := by
    rcases prs_cases body.data.toList with ⟨_, _, _, _, hp⟩ | ⟨_, hp⟩
    · rw [hp]; exact .inl rfl
    · rw [hp]; exact .inr rfl
  generalize prs body.data.toList = R at *
  obtain ⟨pn, pl, pe⟩ := R
  dsimp only at CP CQ hpl hpe
  generalize pagesN (nmL l).length = pg at *
  have hbz : (⟨(bodyT next l).toArray⟩ : ByteArray).size ≤ maxLen := by rw [ba_size]; have := bodyT_length next l; unfold maxLen; omega
  have CX : Hid (∀ u, _) := fun u => parse_any ⟨(bodyT next l).toArray⟩ u hbz
  have PX : Hid (bodyB next l = true → prs (⟨(bodyT next l).toArray⟩ : ByteArray).data.toList = (next, l, 0)) := fun hb => by
    show prs (bodyT next l) = _
    rw [bodyT_yes hb, prs_body hb]
  have EB : Hid (bodyE next l = if bodyB next l = true then 0 else 1) := rfl
  rw [EB.out] at CB
  generalize bodyB next l = bb at *
  generalize (⟨(bodyT next l).toArray⟩ : ByteArray) = X at *
  clear hx hwf hs EB hbz
  cases bb with
  | false =>
    rw [if_neg (by decide)] at CB
    rcases hpe with rfl | rfl
    · rw [show decide ((0 : Int) = 0) = true by decide] at CQ
      go_enter Try.func3, Try.ntmps3
      go_wp2_with fail
      refine Calls.mono CW.out ?_
      rintro e w1 ⟨rfl, b1⟩
      have B1 : Hid (Below w.heap.size w w1) := b1
      have C1 : Hid _ := CB.out w1 b1
      clear b1 CW CB
      go_wp2_with fail
      refine Calls.mono C1.out ?_
      rintro e w2 ⟨rfl, b2⟩
      have B2 : Hid (Below w.heap.size w w2) := B1.out.trans (b2.mono B1.out.size)
      have C2 : Hid _ := CR.out w2 B2.out
      clear b2 C1 CR B1
      go_wp2_with fail
      refine Calls.mono C2.out ?_
      rintro e w3 ⟨rfl, b3⟩
      have B3 : Hid (Below w.heap.size w w3) := B2.out.trans (b3.mono B2.out.size)
      have C3 : Hid _ := CP.out w3
      clear b3 C2 CP B2
      go_wp2_with fail
      refine Calls.mono C3.out ?_
      rintro e w4 ⟨a4, n4, c4, rfl, o4, b4⟩
      have B4 : Hid (Below w.heap.size w w4) := B3.out.trans (b4.mono B3.out.size)
      have R4 : Aside (Row encP 2 w4 (.slice a4 n4 c4) pl) := o4.own.row
      have C4 : Hid _ := CQ.out w4
      clear b4 C3 CQ B3 o4
      go_wp2_with fail
      refine Calls.mono C4.out ?_
      rintro e w5 ⟨a5, n5, c5, rfl, o5, b5⟩
      have B5 : Hid (Below w.heap.size w w5) := B4.out.trans (b5.mono B4.out.size)
      have C5 : Hid _ := same_any (.slice a4 n4 c4) (.slice a5 n5 c5) pl pl w5 (R4.out.below b5) o5.own.row (by omega) (by omega)
      rw [decide_eq_true rfl] at C5
      clear b5 C4 B4 o5 R4
      go_wp2_with fail
      refine Calls.mono C5.out ?_
      rintro e w6 ⟨rfl, b6⟩
      have B6 : Hid (Below w.heap.size w w6) := B5.out.trans (b6.mono B5.out.size)
      clear b6 C5 B5
      have B8 : Hid (Below w.heap.size w w6) := B6.out
      clear CX PX B6
      have C8 : Hid _ := G1.out w6 B8.out
      go_wp2_with fail
      refine Calls.mono C8.out ?_
      rintro e w9 ⟨rfl, b9⟩
      have B9 : Hid (Below w.heap.size w w9) := B8.out.trans (b9.mono B8.out.size)
      have C9 : Hid _ := G2.out w9 B9.out
      clear b9 C8 B8 G1 G2
      go_wp2_with fail
      refine Calls.mono C9.out ?_
      rintro e w10 ⟨rfl, b10⟩
      have B10 : Hid (Below w.heap.size w w10) := B9.out.trans (b10.mono B9.out.size)
      clear b10 C9 B9
      go_wp2
      go_ret
      exact ⟨rfl, B10.out⟩
    · rw [show decide ((3 : Int) = 0) = false by decide] at CQ
      go_enter Try.func3, Try.ntmps3
      go_wp2_with fail
      refine Calls.mono CW.out ?_
      rintro e w1 ⟨rfl, b1⟩
      have B1 : Hid (Below w.heap.size w w1) := b1
      have C1 : Hid _ := CB.out w1 b1
      clear b1 CW CB
      go_wp2_with fail
      refine Calls.mono C1.out ?_
      rintro e w2 ⟨rfl, b2⟩
      have B2 : Hid (Below w.heap.size w w2) := B1.out.trans (b2.mono B1.out.size)
      have C2 : Hid _ := CR.out w2 B2.out
      clear b2 C1 CR B1
      go_wp2_with fail
      refine Calls.mono C2.out ?_
      rintro e w3 ⟨rfl, b3⟩
      have B3 : Hid (Below w.heap.size w w3) := B2.out.trans (b3.mono B2.out.size)
      have C3 : Hid _ := CP.out w3
      clear b3 C2 CP B2
      go_wp2_with fail
      refine Calls.mono C3.out ?_
      rintro e w4 ⟨a4, n4, c4, rfl, o4, b4⟩
      have B4 : Hid (Below w.heap.size w w4) := B3.out.trans (b4.mono B3.out.size)
      have R4 : Aside (Row encP 2 w4 (.slice a4 n4 c4) pl) := o4.own.row
      have C4 : Hid _ := CQ.out w4
      clear b4 C3 CQ B3 o4
      go_wp2_with fail
      refine Calls.mono C4.out ?_
      rintro e w5 ⟨a5, n5, c5, rfl, o5, b5⟩
      have B5 : Hid (Below w.heap.size w w5) := B4.out.trans (b5.mono B4.out.size)
      have C5 : Hid _ := same_any (.slice a4 n4 c4) (.slice a5 n5 c5) pl pl w5 (R4.out.below b5) o5.own.row (by omega) (by omega)
      rw [decide_eq_true rfl] at C5
      clear b5 C4 B4 o5 R4
      go_wp2_with fail
      refine Calls.mono C5.out ?_
      rintro e w6 ⟨rfl, b6⟩
      have B6 : Hid (Below w.heap.size w w6) := B5.out.trans (b6.mono B5.out.size)
      clear b6 C5 B5
      have B8 : Hid (Below w.heap.size w w6) := B6.out
      clear CX PX B6
      have C8 : Hid _ := G1.out w6 B8.out
      go_wp2_with fail
      refine Calls.mono C8.out ?_
      rintro e w9 ⟨rfl, b9⟩
      have B9 : Hid (Below w.heap.size w w9) := B8.out.trans (b9.mono B8.out.size)
      have C9 : Hid _ := G2.out w9 B9.out
      clear b9 C8 B8 G1 G2
      go_wp2_with fail
      refine Calls.mono C9.out ?_
      rintro e w10 ⟨rfl, b10⟩
      have B10 : Hid (Below w.heap.size w w10) := B9.out.trans (b10.mono B9.out.size)
      clear b10 C9 B9
      go_wp2
      go_ret
      exact ⟨rfl, B10.out⟩
  | true =>
    rw [if_pos rfl] at CB
    rcases hpe with rfl | rfl
    · rw [show decide ((0 : Int) = 0) = true by decide] at CQ
      go_enter Try.func3, Try.ntmps3
      go_wp2_with fail
      refine Calls.mono CW.out ?_
      rintro e w1 ⟨rfl, b1⟩
      have B1 : Hid (Below w.heap.size w w1) := b1
      have C1 : Hid _ := CB.out w1 b1
      clear b1 CW CB
      go_wp2_with fail
      refine Calls.mono C1.out ?_
      rintro e w2 ⟨rfl, b2⟩
      have B2 : Hid (Below w.heap.size w w2) := B1.out.trans (b2.mono B1.out.size)
      have C2 : Hid _ := CR.out w2 B2.out
      clear b2 C1 CR B1
      go_wp2_with fail
      refine Calls.mono C2.out ?_
      rintro e w3 ⟨rfl, b3⟩
      have B3 : Hid (Below w.heap.size w w3) := B2.out.trans (b3.mono B2.out.size)
      have C3 : Hid _ := CP.out w3
      clear b3 C2 CP B2
      go_wp2_with fail
      refine Calls.mono C3.out ?_
      rintro e w4 ⟨a4, n4, c4, rfl, o4, b4⟩
      have B4 : Hid (Below w.heap.size w w4) := B3.out.trans (b4.mono B3.out.size)
      have R4 : Aside (Row encP 2 w4 (.slice a4 n4 c4) pl) := o4.own.row
      have C4 : Hid _ := CQ.out w4
      clear b4 C3 CQ B3 o4
      go_wp2_with fail
      refine Calls.mono C4.out ?_
      rintro e w5 ⟨a5, n5, c5, rfl, o5, b5⟩
      have B5 : Hid (Below w.heap.size w w5) := B4.out.trans (b5.mono B4.out.size)
      have C5 : Hid _ := same_any (.slice a4 n4 c4) (.slice a5 n5 c5) pl pl w5 (R4.out.below b5) o5.own.row (by omega) (by omega)
      rw [decide_eq_true rfl] at C5
      clear b5 C4 B4 o5 R4
      go_wp2_with fail
      refine Calls.mono C5.out ?_
      rintro e w6 ⟨rfl, b6⟩
      have B6 : Hid (Below w.heap.size w w6) := B5.out.trans (b6.mono B5.out.size)
      clear b6 C5 B5
      have C6 : Hid _ := CX.out w6
      rw [PX.out (by trivial)] at C6
      dsimp only at C6
      go_wp2_with fail
      refine Calls.mono C6.out ?_
      rintro e w7 ⟨a7, n7, c7, rfl, o7, b7⟩
      have B7 : Hid (Below w.heap.size w w7) := B6.out.trans (b7.mono B6.out.size)
      have C7 : Hid _ := same_any (.slice a7 n7 c7) (.slice la l.length lc) l l w7 o7.own.row (HR.out.below B7.out) (by omega) (by omega)
      rw [decide_eq_true rfl] at C7
      clear b7 C6 B6 o7 CX PX
      go_wp2_with fail
      refine Calls.mono C7.out ?_
      rintro e w8 ⟨rfl, b8⟩
      have B8 : Hid (Below w.heap.size w w8) := B7.out.trans (b8.mono B7.out.size)
      clear b8 C7 B7
      have C8 : Hid _ := G1.out w8 B8.out
      go_wp2_with fail
      refine Calls.mono C8.out ?_
      rintro e w9 ⟨rfl, b9⟩
      have B9 : Hid (Below w.heap.size w w9) := B8.out.trans (b9.mono B8.out.size)
      have C9 : Hid _ := G2.out w9 B9.out
      clear b9 C8 B8 G1 G2
      go_wp2_with fail
      refine Calls.mono C9.out ?_
      rintro e w10 ⟨rfl, b10⟩
      have B10 : Hid (Below w.heap.size w w10) := B9.out.trans (b10.mono B9.out.size)
      clear b10 C9 B9
      go_wp2
      go_ret
      exact ⟨rfl, B10.out⟩
    · rw [show decide ((3 : Int) = 0) = false by decide] at CQ
      go_enter Try.func3, Try.ntmps3
      go_wp2_with fail
      refine Calls.mono CW.out ?_
      rintro e w1 ⟨rfl, b1⟩
      have B1 : Hid (Below w.heap.size w w1) := b1
      have C1 : Hid _ := CB.out w1 b1
      clear b1 CW CB
      go_wp2_with fail
      refine Calls.mono C1.out ?_
      rintro e w2 ⟨rfl, b2⟩
      have B2 : Hid (Below w.heap.size w w2) := B1.out.trans (b2.mono B1.out.size)
      have C2 : Hid _ := CR.out w2 B2.out
      clear b2 C1 CR B1
      go_wp2_with fail
      refine Calls.mono C2.out ?_
      rintro e w3 ⟨rfl, b3⟩
      have B3 : Hid (Below w.heap.size w w3) := B2.out.trans (b3.mono B2.out.size)
      have C3 : Hid _ := CP.out w3
      clear b3 C2 CP B2
      go_wp2_with fail
      refine Calls.mono C3.out ?_
      rintro e w4 ⟨a4, n4, c4, rfl, o4, b4⟩
      have B4 : Hid (Below w.heap.size w w4) := B3.out.trans (b4.mono B3.out.size)
      have R4 : Aside (Row encP 2 w4 (.slice a4 n4 c4) pl) := o4.own.row
      have C4 : Hid _ := CQ.out w4
      clear b4 C3 CQ B3 o4
      go_wp2_with fail
      refine Calls.mono C4.out ?_
      rintro e w5 ⟨a5, n5, c5, rfl, o5, b5⟩
      have B5 : Hid (Below w.heap.size w w5) := B4.out.trans (b5.mono B4.out.size)
      have C5 : Hid _ := same_any (.slice a4 n4 c4) (.slice a5 n5 c5) pl pl w5 (R4.out.below b5) o5.own.row (by omega) (by omega)
      rw [decide_eq_true rfl] at C5
      clear b5 C4 B4 o5 R4
      go_wp2_with fail
      refine Calls.mono C5.out ?_
      rintro e w6 ⟨rfl, b6⟩
      have B6 : Hid (Below w.heap.size w w6) := B5.out.trans (b6.mono B5.out.size)
      clear b6 C5 B5
      have C6 : Hid _ := CX.out w6
      rw [PX.out (by trivial)] at C6
      dsimp only at C6
      go_wp2_with fail
      refine Calls.mono C6.out ?_
      rintro e w7 ⟨a7, n7, c7, rfl, o7, b7⟩
      have B7 : Hid (Below w.heap.size w w7) := B6.out.trans (b7.mono B6.out.size)
      have C7 : Hid _ := same_any (.slice a7 n7 c7) (.slice la l.length lc) l l w7 o7.own.row (HR.out.below B7.out) (by omega) (by omega)
      rw [decide_eq_true rfl] at C7
      clear b7 C6 B6 o7 CX PX
      go_wp2_with fail
      refine Calls.mono C7.out ?_
      rintro e w8 ⟨rfl, b8⟩
      have B8 : Hid (Below w.heap.size w w8) := B7.out.trans (b8.mono B7.out.size)
      clear b8 C7 B7
      have C8 : Hid _ := G1.out w8 B8.out
      go_wp2_with fail
      refine Calls.mono C8.out ?_
      rintro e w9 ⟨rfl, b9⟩
      have B9 : Hid (Below w.heap.size w w9) := B8.out.trans (b9.mono B8.out.size)
      have C9 : Hid _ := G2.out w9 B9.out
      clear b9 C8 B8 G1 G2
      go_wp2_with fail
      refine Calls.mono C9.out ?_
      rintro e w10 ⟨rfl, b10⟩
      have B10 : Hid (Below w.heap.size w w10) := B9.out.trans (b10.mono B9.out.size)
      clear b10 C9 B9
      go_wp2
      go_ret
      exact ⟨rfl, B10.out⟩

end Go.Proofs.Ytnjnggjbeklmpaa

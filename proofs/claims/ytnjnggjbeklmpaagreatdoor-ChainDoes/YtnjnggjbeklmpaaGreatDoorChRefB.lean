/-
  The walks of the document's answer for layer 9: rootstockref09's Body, Parse and Pages.
-/
import Derived.Test.YtnjnggjbeklmpaaGreatDoorChWorks
import Derived.Test.YtnjnggjbeklmpaaGreatDoorBCode
import Derived.Test.YtnjnggjbeklmpaaGreatDoorBRunsA
import Derived.Deep.AppendLies
import Derived.Deep.RegionLaw
import Derived.BigQuiet
namespace Go.Proofs.YtnjnggjbeklmpaaGreatDoor
open Go.Shelf Go.RowKit Go.Lib Go.Sort
set_option linter.unusedVariables false

/-- Runs whose numbers are Go's. -/
def Wf (l : List Pr) : Prop := ∀ r ∈ l, r.1 ≤ 9223372036854775807 ∧ r.2 ≤ 9223372036854775807

def rpS (n : Int) : List UInt8 := if n < 0 then [] else beBytes 4 n.toNat
theorem rpS_yes {n : Int} (h : nextB n = true) : rpS n = beBytes 4 n.toNat := if_neg (by have := nextB_iff.1 h; omega)
theorem rpS_length (n : Int) : (rpS n).length ≤ 4 := by
  unfold rpS
  split
  · simp
  · rw [beBytes_length]; exact Nat.le_refl _
theorem qok4 (N : Nat) : qok 4 N = nextB (N : Int) := by
  unfold qok nextB
  have h : (256 : Nat) ^ 4 = 4294967296 := by decide
  rw [h, Bool.eq_iff_iff, beq_iff_eq, decide_eq_true_iff]
  omega
theorem rput4 (n : Int) (w : World) (hn : n ≤ 9223372036854775807) :
    Calls Tryz.prog 52 #[.int .i64 4, .int .i64 n] w fun r w' => r = .returned (.tuple #[.string ⟨(rpS n).toArray⟩, .bool (nextB n)]) ∧ Below w.heap.size w w' := by
  by_cases h : n < 0
  · refine (qput_neg n w h).mono ?_
    rintro e w' ⟨rfl, rfl⟩
    have h1 : nextB n = false := by unfold nextB; rw [decide_eq_false_iff_not]; omega
    rw [show rpS n = [] from if_pos h, h1]
    exact ⟨rfl, Below.refl _ _⟩
  · obtain ⟨N, rfl⟩ : ∃ N : Nat, n = N := ⟨n.toNat, by omega⟩
    refine (qput4 N w hn).mono ?_
    rintro e w' ⟨rfl, b⟩
    rw [show rpS (N : Int) = beBytes 4 N from if_neg h, qok4]
    exact ⟨rfl, b⟩
theorem ba_join9 (X Y : List UInt8) : (⟨X.toArray⟩ : ByteArray) ++ ⟨Y.toArray⟩ = ⟨(X ++ Y).toArray⟩ := by
  apply ba_ext
  rw [ByteArray.data_append]
  simp
theorem ret_body {a b : List UInt8} {c d : Bool} (h1 : a = b) (h2 : c = d) : Ending.returned (.tuple #[.string ⟨a.toArray⟩, .bool c]) = .returned (.tuple #[.string ⟨b.toArray⟩, .bool d]) := by rw [h1, h2]
theorem endB_parts (a b : Int) : endB (a, b) = (nextB a && (nextB b && decide (a ≤ b))) := by
  unfold endB nextB
  rw [← Bool.decide_and, ← Bool.decide_and, decide_eq_decide]
  simp only
  omega

set_option maxHeartbeats 4000000 in
set_option maxRecDepth 100000 in
theorem rbody_any (next : Int) (hx : next ≤ 9223372036854775807) (v : Value) (l : List Pr) (w : World) (h : Row encP 2 w v l) (hwf : Wf l) (hl : l.length ≤ 1000000) :
    Calls Tryz.prog 30 #[.int .i64 next, v] w fun e w' => e = .returned (.tuple #[.string ⟨(bodyT next l).toArray⟩, .bool (bodyB next l)]) ∧ Below w.heap.size w w' := by
  obtain ⟨ao, cap, rfl, h1, h2, h3⟩ := h
  have H3 : Aside (l ≠ [] → ∃ b off, ao = some ⟨b, off, none⟩ ∧ b < w.heap.size ∧ CellsK encP 2 w b off l) := h3
  have HW : Hid (Wf l) := hwf
  have P1 : Hid _ := rput4 next w hx
  have lX := rpS_length next
  clear h3 hwf hx
  cases hn : nextB next with
  | false =>
    have E : Hid (bodyB next l = false) := by show _ = _; unfold bodyB; rw [hn]; rfl
    have E1 : Hid (bodyT next l = []) := if_neg (by rw [E.out]; decide)
    rw [E.out, E1.out]
    rw [hn] at P1
    clear hn
    go_enter Tryz.func30, Tryz.ntmps30
    go_wp2_with fail
    refine Calls.mono P1.out ?_
    rintro e w2 ⟨rfl, b2⟩
    have B2 : Hid (Below w.heap.size w w2) := b2
    clear b2 P1
    go_wp2
    go_ret2
    exact ⟨rfl, B2.out⟩
  | true =>
    rw [hn, rpS_yes hn] at P1
    rw [rpS_yes hn] at lX
    by_cases h29 : (29 : Int) < l.length
    · have E : Hid (¬ bodyB next l = true) := fun h => by have := (bodyB_iff.1 h).2.1; omega
      have E1 : Hid (bodyT next l = []) := if_neg E.out
      rw [E1.out, show bodyB next l = false by simpa using E.out]
      clear hn
      generalize beBytes 4 next.toNat = X at *
      go_enter Tryz.func30, Tryz.ntmps30
      go_wp2_with fail
      refine Calls.mono P1.out ?_
      rintro e w2 ⟨rfl, b2⟩
      have B2 : Hid (Below w.heap.size w w2) := b2
      clear b2 P1
      go_wp2
      go_ret2
      exact ⟨rfl, B2.out⟩
    · have P2 : Hid (∀ u, _) := fun u => qput2 l.length u (by omega)
      have HN : Hid (nextB next = true) := hn
      have EB : Hid (bodyL next l = (beBytes 4 next.toNat ++ beBytes 2 l.length) ++ runsL l) := by show _ = _; unfold bodyL; rw [List.append_assoc]
      have lY : (beBytes 2 l.length).length = 2 := beBytes_length _ _
      clear hn
      generalize beBytes 4 next.toNat = X at *
      generalize beBytes 2 l.length = Y at *
      generalize qok 2 l.length = qk at *
      go_enter Tryz.func30, Tryz.ntmps30
      go_wp2_with fail
      refine Calls.mono P1.out ?_
      rintro e w2 ⟨rfl, b2⟩
      have B2 : Hid (Below w.heap.size w w2) := b2
      clear b2 P1
      go_wp2_with fail
      refine Calls.mono (P2.out w2) ?_
      rintro e w3 ⟨rfl, b3⟩
      have B3 : Hid (Below w.heap.size w w3) := B2.out.trans (b3.mono B2.out.size)
      clear b3 P2 B2
      go_wp2
      go_loopg [6, 10] l.length (fun kx s6 s10 wr => ∃ (i : Nat) (Z : List UInt8), s6 = .string ⟨Z.toArray⟩ ∧ s10 = .int .i64 i ∧ i ≤ l.length ∧ l.length - i ≤ kx ∧ Z.length ≤ 6 + 8 * i ∧ Hid (Z = (X ++ Y) ++ runsL (l.take i)) ∧ Hid (Below w.heap.size w wr) ∧ Hid (∀ r ∈ l.take i, endB r = true))
      case atStart => exact ⟨0, X ++ Y, congrArg Value.string (ba_join9 X Y), rfl, Nat.zero_le _, Nat.le_refl _, by rw [List.length_append]; omega, by simp [Hid, runsL], B3, fun r hr => by simp at hr⟩
      case round =>
        obtain ⟨i, Z, rfl, rfl, hi, hki, hZ, HZ, HB, HE⟩ := hrel
        clear B3
        by_cases hil : i < l.length
        · have hilz : (i : Int) < (l.length : Int) := by omega
          obtain ⟨b, off, rfl, hb, x1, x2⟩ := row_at H3.out i hil HB.out
          have TT : Hid (l.take (i + 1) = l.take i ++ [l[i]!]) := take_next hil
          have MM : Hid (l[i]! ∈ l) := bang_mem hil
          obtain ⟨wf1, wf2⟩ := HW.out _ (bang_mem hil)
          obtain ⟨x, hxx⟩ : ∃ x, l[i]! = x := ⟨_, rfl⟩
          rw [hxx] at x1 x2 wf1 wf2 TT MM
          obtain ⟨xa, xb⟩ := x
          have HX : Hid (l[i]! = (xa, xb)) := hxx
          clear hxx
          dsimp only at x1 x2 wf1 wf2
          have Q1 : Hid _ := rput4 xa wr wf1
          have Q2 : Hid (∀ u, _) := fun u => rput4 xb u wf2
          have EE := endB_parts xa xb
          have la := rpS_length xa
          have lb := rpS_length xb
          have HEL : Hid (endL (xa, xb) = beBytes 4 xa.toNat ++ beBytes 4 xb.toNat) := rfl
          have RS1 : Hid (nextB xa = true → rpS xa = beBytes 4 xa.toNat) := rpS_yes
          have RS2 : Hid (nextB xb = true → rpS xb = beBytes 4 xb.toNat) := rpS_yes
          generalize rpS xa = A at *
          generalize rpS xb = C at *
          obtain ⟨pa, hpa⟩ : ∃ p, nextB xa = p := ⟨_, rfl⟩
          obtain ⟨pb, hpb⟩ : ∃ p, nextB xb = p := ⟨_, rfl⟩
          rw [hpa] at Q1 EE RS1
          rw [hpb] at Q2 EE RS2
          clear hpa hpb
          by_cases hok : endB (xa, xb) = true
          · have hok2 := hok
            rw [EE] at hok2
            obtain ⟨rfl, hok3⟩ := Bool.and_eq_true _ _ ▸ hok2
            obtain ⟨rfl, hok4⟩ := Bool.and_eq_true _ _ ▸ hok3
            have hle : ¬ xb < xa := by have := of_decide_eq_true hok4; omega
            have E3 : Hid (∀ r ∈ l.take (i + 1), endB r = true) := fun r hr => by
              rw [TT.out] at hr
              rcases List.mem_append.1 hr with hr | hr
              · exact HE.out r hr
              · rw [List.mem_singleton.1 hr]; exact hok
            have Z3 : Hid ((Z ++ A) ++ C = (X ++ Y) ++ runsL (l.take (i + 1))) := by
              show _ = _
              rw [HZ.out, TT.out, runsL_append, RS1.out rfl, RS2.out rfl]
              simp [runsL, HEL.out]
            clear hok hok2 hok3 hok4 EE HZ HE TT RS1 RS2 HEL
            go_wp2_with fail
            refine Calls.mono Q1.out ?_
            rintro e w4 ⟨rfl, b4⟩
            have B4 : Hid (Below w.heap.size w w4) := HB.out.trans (b4.mono HB.out.size)
            obtain ⟨_, _, ee, _, y1, y2⟩ := row_at H3.out i hil B4.out
            cases ee
            rw [HX.out] at y1 y2
            dsimp only at y1 y2
            clear Q1 b4 HB x1 x2
            go_wp2_with fail
            refine Calls.mono (Q2.out w4) ?_
            rintro e w5 ⟨rfl, b5⟩
            have B5 : Hid (Below w.heap.size w w5) := B4.out.trans (b5.mono B4.out.size)
            obtain ⟨_, _, ee, _, z1, z2⟩ := row_at H3.out i hil B5.out
            cases ee
            rw [HX.out] at z1 z2
            dsimp only at z1 z2
            clear Q2 b5 B4 y1 y2
            go_wp2_with fail
            go_quiet (fail)
            have B6 : Hid (Below w.heap.size w (w5.drewN nq)) := by have := below_grown B5.out B5.out.size nq #[]; rw [grow_empty] at this; exact this
            go_wp2
            go_roundg (l.length - (i + 1))
            case measure => omega
            case rel => exact ⟨i + 1, (Z ++ A) ++ C, by rw [ba_join9, ba_join9], by go_num, by omega, Nat.le_refl _, by simp only [List.length_append]; omega, Z3, B6, E3⟩
          · have F0 : Hid (bodyB next l = false) := by
              show _ = _
              rw [Bool.eq_false_iff]
              intro h
              exact hok ((bodyB_iff.1 h).2.2 _ MM.out)
            have E1 : Hid (bodyT next l = []) := if_neg (by rw [F0.out]; decide)
            cases pa with
            | false =>
              clear EE hok HZ HE TT RS1 RS2 HEL
              go_wp2_with fail
              refine Calls.mono Q1.out ?_
              rintro e w4 ⟨rfl, b4⟩
              have B4 : Hid (Below w.heap.size w w4) := HB.out.trans (b4.mono HB.out.size)
              obtain ⟨_, _, ee, _, y1, y2⟩ := row_at H3.out i hil B4.out
              cases ee
              rw [HX.out] at y1 y2
              dsimp only at y1 y2
              clear Q1 b4 HB x1 x2
              go_wp2_with fail
              refine Calls.mono (Q2.out w4) ?_
              rintro e w5 ⟨rfl, b5⟩
              have B5 : Hid (Below w.heap.size w w5) := B4.out.trans (b5.mono B4.out.size)
              obtain ⟨_, _, ee, _, z1, z2⟩ := row_at H3.out i hil B5.out
              cases ee
              rw [HX.out] at z1 z2
              dsimp only at z1 z2
              clear Q2 b5 B4 y1 y2
              go_wp2_with fail
              go_quiet (fail)
              have B6 : Hid (Below w.heap.size w (w5.drewN nq)) := by have := below_grown B5.out B5.out.size nq #[]; rw [grow_empty] at this; exact this
              go_wp2
              go_ret2
              exact ⟨ret_body (a := []) E1.out.symm F0.out.symm, B6.out⟩
            | true =>
              cases pb with
              | false =>
                clear EE hok HZ HE TT RS1 RS2 HEL
                go_wp2_with fail
                refine Calls.mono Q1.out ?_
                rintro e w4 ⟨rfl, b4⟩
                have B4 : Hid (Below w.heap.size w w4) := HB.out.trans (b4.mono HB.out.size)
                obtain ⟨_, _, ee, _, y1, y2⟩ := row_at H3.out i hil B4.out
                cases ee
                rw [HX.out] at y1 y2
                dsimp only at y1 y2
                clear Q1 b4 HB x1 x2
                go_wp2_with fail
                refine Calls.mono (Q2.out w4) ?_
                rintro e w5 ⟨rfl, b5⟩
                have B5 : Hid (Below w.heap.size w w5) := B4.out.trans (b5.mono B4.out.size)
                obtain ⟨_, _, ee, _, z1, z2⟩ := row_at H3.out i hil B5.out
                cases ee
                rw [HX.out] at z1 z2
                dsimp only at z1 z2
                clear Q2 b5 B4 y1 y2
                go_wp2_with fail
                go_quiet (fail)
                have B6 : Hid (Below w.heap.size w (w5.drewN nq)) := by have := below_grown B5.out B5.out.size nq #[]; rw [grow_empty] at this; exact this
                go_wp2
                go_ret2
                exact ⟨ret_body (a := []) E1.out.symm F0.out.symm, B6.out⟩
              | true =>
                have hgt : xb < xa := by
                  rcases Int.lt_or_le xb xa with h | h
                  · exact h
                  · exact absurd (by rw [EE, decide_eq_true h]; rfl) hok
                clear EE hok HZ HE TT RS1 RS2 HEL
                go_wp2_with fail
                refine Calls.mono Q1.out ?_
                rintro e w4 ⟨rfl, b4⟩
                have B4 : Hid (Below w.heap.size w w4) := HB.out.trans (b4.mono HB.out.size)
                obtain ⟨_, _, ee, _, y1, y2⟩ := row_at H3.out i hil B4.out
                cases ee
                rw [HX.out] at y1 y2
                dsimp only at y1 y2
                clear Q1 b4 HB x1 x2
                go_wp2_with fail
                refine Calls.mono (Q2.out w4) ?_
                rintro e w5 ⟨rfl, b5⟩
                have B5 : Hid (Below w.heap.size w w5) := B4.out.trans (b5.mono B4.out.size)
                obtain ⟨_, _, ee, _, z1, z2⟩ := row_at H3.out i hil B5.out
                cases ee
                rw [HX.out] at z1 z2
                dsimp only at z1 z2
                clear Q2 b5 B4 y1 y2
                go_wp2_with fail
                go_quiet (fail)
                have B6 : Hid (Below w.heap.size w (w5.drewN nq)) := by have := below_grown B5.out B5.out.size nq #[]; rw [grow_empty] at this; exact this
                go_wp2
                go_ret2
                exact ⟨ret_body (a := []) E1.out.symm F0.out.symm, B6.out⟩
        · have hilz : ¬ (i : Int) < (l.length : Int) := by omega
          obtain rfl : i = l.length := by omega
          rw [List.take_length] at HE HZ
          have F1 : Hid (bodyB next l = true) := bodyB_iff.2 ⟨HN.out, by omega, HE.out⟩
          have E1 : Hid (bodyT next l = Z) := by show _ = _; rw [show bodyT next l = bodyL next l from if_pos F1.out, EB.out, HZ.out]
          go_wp2
          go_ret2
          exact ⟨ret_body E1.out.symm F1.out.symm, HB.out⟩

end Go.Proofs.YtnjnggjbeklmpaaGreatDoor

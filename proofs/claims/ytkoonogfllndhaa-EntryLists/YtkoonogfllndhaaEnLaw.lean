/-
  The walks of what all the laws ask first: the examples, and whether a list is more than is looked at.
-/
import Derived.Test.YtkoonogfllndhaaEnCode
namespace Go.Proofs.Ytkoonogfllndhaa
open Go.Shelf Go.RowKit Go.Lib Go.Sort

/-- A list that is more than is looked at. -/
def ovB (l : List En) : Bool := decide (60 < l.length) || l.any fun x => decide (60 < x.1.size) || decide (300 < x.2.size)
theorem ovB_no {l : List En} (h : ovB l = false) : l.length ≤ 60 ∧ ∀ x ∈ l, x.1.size ≤ 60 ∧ x.2.size ≤ 300 := by
  unfold ovB at h
  simp only [Bool.or_eq_false_iff, decide_eq_false_iff_not, List.any_eq_false] at h
  refine ⟨by omega, fun x hx => ?_⟩
  have := h.2 x hx
  simp only [Bool.or_eq_true, decide_eq_true_eq] at this
  omega
theorem ovB_sz {l : List En} (h : ovB l = false) : szL l ≤ 30000 := by
  obtain ⟨h1, h2⟩ := ovB_no h
  have := szL_bound (l := l) (b := 362) fun x hx => by have := h2 x hx; unfold szE; omega
  omega

set_option maxHeartbeats 2000000 in
set_option maxRecDepth 100000 in
theorem over_any (v : Value) (l : List En) (w : World) (h : Row encP 2 w v l) :
    Calls Try.prog 10 #[v] w fun e w' => e = .returned (.bool (ovB l)) ∧ w = w' := by
  obtain ⟨ao, cap, rfl, h1, h2, h3⟩ := h
  have H3 : Aside (l ≠ [] → ∃ b off, ao = some ⟨b, off, none⟩ ∧ b < w.heap.size ∧ CellsK encP 2 w b off l) := h3
  clear h3
  by_cases hb : 60 < l.length
  · have hbz : (60 : Int) < (l.length : Int) := by omega
    have E : Hid (ovB l = true) := by show _ = _; unfold ovB; rw [decide_eq_true hb]; rfl
    go_enter Try.func10, Try.ntmps10
    go_wp2
    go_ret
    exact ⟨ret_b E.out.symm, rfl⟩
  · have hbz : ¬ (60 : Int) < (l.length : Int) := by omega
    have hl : l.length ≤ 60 := by omega
    go_enter Try.func10, Try.ntmps10
    go_wp2
    go_loopg [3] l.length (fun kx s3 wr => ∃ (i : Nat), s3 = .int .i64 i ∧ i ≤ l.length ∧ l.length - i ≤ kx ∧ w = wr ∧ Hid (∀ x ∈ l.take i, ¬ 60 < x.1.size ∧ ¬ 300 < x.2.size))
    case atStart => exact ⟨0, rfl, Nat.zero_le _, Nat.le_refl _, rfl, fun x hx => by simp at hx⟩
    case round =>
      obtain ⟨i, rfl, hi, hki, rfl, HN⟩ := hrel
      by_cases hil : i < l.length
      · have hilz : (i : Int) < (l.length : Int) := by omega
        obtain ⟨b, off, rfl, hb, x1, x2⟩ := row_at H3.out i hil (Below.refl _ w)
        have T : Hid (l.take (i + 1) = l.take i ++ [l[i]!]) := take_next hil
        have M : Hid (l[i]! ∈ l) := bang_mem hil
        generalize l[i]! = x at *
        by_cases c1 : (60 : Int) < (x.1.size : Int)
        · have E : Hid (ovB l = true) := by
            show _ = _
            unfold ovB
            rw [Bool.or_eq_true]; right
            rw [List.any_eq_true]
            exact ⟨x, M.out, by simp; omega⟩
          clear HN
          go_wp2
          go_ret
          exact ⟨ret_b E.out.symm, rfl⟩
        · by_cases c2 : (300 : Int) < (x.2.size : Int)
          · have E : Hid (ovB l = true) := by
              show _ = _
              unfold ovB
              rw [Bool.or_eq_true]; right
              rw [List.any_eq_true]
              exact ⟨x, M.out, by simp; omega⟩
            clear HN
            go_wp2
            go_ret
            exact ⟨ret_b E.out.symm, rfl⟩
          · have N2 : Hid (∀ y ∈ l.take (i + 1), ¬ 60 < y.1.size ∧ ¬ 300 < y.2.size) := fun y hy => by
              rw [T.out] at hy
              rcases List.mem_append.1 hy with e | e
              · exact HN.out y e
              · rw [List.mem_singleton.1 e]; omega
            clear HN
            go_wp2
            go_roundg (l.length - (i + 1))
            case measure => omega
            case rel => exact ⟨i + 1, by go_num, by omega, Nat.le_refl _, rfl, N2⟩
      · have hilz : ¬ (i : Int) < (l.length : Int) := by omega
        obtain rfl : i = l.length := by omega
        rw [List.take_length] at HN
        have E : Hid (ovB l = false) := by
          show _ = _
          unfold ovB
          rw [decide_eq_false (by omega), Bool.false_or, List.any_eq_false]
          intro x hx
          have := HN.out x hx
          simp only [Bool.or_eq_true, decide_eq_true_eq]
          omega
        clear HN
        go_wp2
        go_ret
        exact ⟨ret_b E.out.symm, rfl⟩

/-- The examples' lists. -/
def exL : List En := [(⟨#[97]⟩, ⟨#[120, 121]⟩), (⟨#[98]⟩, ⟨#[50]⟩)]
def exT : List En := [(⟨#[97]⟩, ⟨#[120, 121]⟩), (⟨#[98]⟩, ⟨#[120, 121]⟩), (⟨#[99]⟩, ⟨#[120, 121]⟩)]
theorem ex1 : puL [] ⟨#[98]⟩ ⟨#[49]⟩ = [(⟨#[98]⟩, ⟨#[49]⟩)] := by decide +kernel
theorem ex2 : puL [(⟨#[98]⟩, ⟨#[49]⟩)] ⟨#[97]⟩ ⟨#[120, 121]⟩ = [(⟨#[97]⟩, ⟨#[120, 121]⟩), (⟨#[98]⟩, ⟨#[49]⟩)] := by decide +kernel
theorem ex3 : puL [(⟨#[97]⟩, ⟨#[120, 121]⟩), (⟨#[98]⟩, ⟨#[49]⟩)] ⟨#[98]⟩ ⟨#[50]⟩ = exL := by decide +kernel
theorem exR : rgB exL = true := by decide +kernel
theorem exF : fdN exL ⟨#[97, 97]⟩ = 1 ∧ fdB exL ⟨#[97, 97]⟩ = false := by decide +kernel
theorem exG : geV exL ⟨#[98]⟩ = ⟨#[50]⟩ ∧ geB exL ⟨#[98]⟩ = true := by decide +kernel
theorem exE : ecS exL = ⟨#[1, 97, 2, 120, 121, 1, 98, 1, 50]⟩ ∧ ecE exL = 0 := by decide +kernel
theorem exH : hfN exT = 2 := by decide +kernel
theorem exS : szE (⟨#[97]⟩, ⟨#[120, 121]⟩) = 5 := by decide +kernel
theorem exC : chkE ⟨#[]⟩ ⟨#[]⟩ = 110 ∧ chkE ⟨#[97]⟩ ⟨#[]⟩ = 0 := by decide +kernel

theorem exL_len : exL.length = 2 := rfl
theorem exL_0 : exL[0]! = (⟨#[97]⟩, ⟨#[120, 121]⟩) := rfl
theorem exL_1 : exL[1]! = (⟨#[98]⟩, ⟨#[50]⟩) := rfl

theorem flat_three (x y z : En) : #[Value.string x.1, .string x.2, .string y.1, .string y.2, .string z.1, .string z.2] = flatK encP 2 [x, y, z].toArray := by
  apply Array.ext'
  have h1 := flatK_snoc encP 2 encP_len [] x
  have h2 := flatK_snoc encP 2 encP_len [x] y
  have h3 := flatK_snoc encP 2 encP_len [x, y] z
  rw [List.nil_append] at h1
  rw [show [x] ++ [y] = [x, y] from rfl, h1] at h2
  rw [show [x, y] ++ [z] = [x, y, z] from rfl, h2] at h3
  rw [h3]
  simp [flatK, encP]

set_option maxHeartbeats 4000000 in
set_option maxRecDepth 100000 in
theorem works_any (w : World) : Calls Try.prog 9 #[] w fun e w' => e = .returned (.bool true) ∧ Below w.heap.size w w' := by
  have C1 : Hid _ := eput_any (.slice none 0 0) [] ⟨#[98]⟩ ⟨#[49]⟩ w (Own.nil (base := 0)).row (by simp)
  rw [ex1] at C1
  go_enter Try.func9, Try.ntmps9
  go_wp2_with fail
  refine Calls.mono C1.out ?_
  rintro e w1 ⟨v1, rfl, o1, b1⟩
  have C2 : Hid _ := eput_any v1 [(⟨#[98]⟩, ⟨#[49]⟩)] ⟨#[97]⟩ ⟨#[120, 121]⟩ w1 o1.row (by simp)
  rw [ex2] at C2
  have B1 : Hid (Below w.heap.size w w1) := b1
  clear C1 b1 o1
  go_wp2_with fail
  refine Calls.mono C2.out ?_
  rintro e w2 ⟨v2, rfl, o2, b2⟩
  have C3 : Hid _ := eput_any v2 [(⟨#[97]⟩, ⟨#[120, 121]⟩), (⟨#[98]⟩, ⟨#[49]⟩)] ⟨#[98]⟩ ⟨#[50]⟩ w2 o2.row (by simp)
  rw [ex3] at C3
  have B2 : Hid (Below w.heap.size w w2) := B1.out.trans (b2.mono B1.out.size)
  clear C2 b2 o2 B1
  go_wp2_with fail
  refine Calls.mono C3.out ?_
  rintro e w3 ⟨v3, rfl, o3, b3⟩
  have B3 : Hid (Below w.heap.size w w3) := B2.out.trans (b3.mono B2.out.size)
  obtain ⟨ao, cap, rfl, hc1, hc2, hc3⟩ := id o3.row
  have R3 : Aside (Row encP 2 w3 (.slice ao exL.length cap) exL) := o3.row
  rw [exL_len] at R3 hc1 ⊢
  have C4 : Hid (Calls Try.prog 20 #[.slice ao 2 cap, .string ⟨#[97, 97]⟩] w3 fun e w' => ∃ (i : Nat) (f : Bool), e = .returned (.tuple #[.int .i64 i, .bool f]) ∧ Fnd exL ⟨#[97, 97]⟩ i f ∧ Below w3.heap.size w3 w') := find_any _ _ ⟨#[97, 97]⟩ w3 R3.out (by simp [exL_len])
  clear C3 b3 o3 B2
  go_upto_region 5 with (go_at_call 20; refine Calls.mono C4.out ?_; rintro e w4 ⟨fi, ff, rfl, hf, b4⟩)
  obtain ⟨f1, f2⟩ := hf.2.2 (rg_of exR)
  rw [exF.1] at f1
  rw [exF.2] at f2
  subst f1 f2
  have B4 : Hid (Below w3.heap.size w3 w4) := b4
  have C5 : Hid _ := get_any _ exL ⟨#[98]⟩ w4 (R3.out.below b4) (by simp [exL_len])
  rw [exG.1, exG.2] at C5
  clear hf b4 C4
  go_upto_region 6 with (go_at_call 14; refine Calls.mono C5.out ?_; rintro e w5 ⟨rfl, b5⟩)
  have B5 : Hid (Below w3.heap.size w3 w5) := B4.out.trans (b5.mono B4.out.size)
  clear b5 C5 B4
  go_upto_region 7 with fail
  have T6 : Hid (Row encP 2 (w5.alloc (.cells #[.string ⟨#[97]⟩, .string ⟨#[120, 121]⟩, .string ⟨#[98]⟩, .string ⟨#[120, 121]⟩, .string ⟨#[99]⟩, .string ⟨#[120, 121]⟩] 36)) (.slice (some ⟨w5.heap.size, 0, none⟩) 3 3) exT) := row_block (Cl.new w5 _ _) (flat_three (⟨#[97]⟩, ⟨#[120, 121]⟩) (⟨#[98]⟩, ⟨#[120, 121]⟩) (⟨#[99]⟩, ⟨#[120, 121]⟩)) rfl
  have B6 : Hid (Below w3.heap.size w3 (w5.alloc (.cells #[.string ⟨#[97]⟩, .string ⟨#[120, 121]⟩, .string ⟨#[98]⟩, .string ⟨#[120, 121]⟩, .string ⟨#[99]⟩, .string ⟨#[120, 121]⟩] 36))) := B5.out.alloc B5.out.size _
  generalize w5.alloc (.cells #[.string ⟨#[97]⟩, .string ⟨#[120, 121]⟩, .string ⟨#[98]⟩, .string ⟨#[120, 121]⟩, .string ⟨#[99]⟩, .string ⟨#[120, 121]⟩] 36) = w6 at *
  generalize w5.heap.size = q5 at *
  clear B5
  have C7 : Hid _ := encode_any _ exL w6 (R3.out.below B6.out) (by simp [exL_len])
  rw [exE.1, exE.2] at C7
  go_upto_region 8 with (go_at_call 23; refine Calls.mono C7.out ?_; rintro e w7 ⟨rfl, b7⟩)
  have B7 : Hid (Below w3.heap.size w3 w7) := B6.out.trans (b7.mono B6.out.size)
  have T7 : Hid (Row encP 2 w7 (.slice (some ⟨q5, 0, none⟩) 3 3) exT) := T6.out.below b7
  clear b7 C7 B6 T6
  obtain ⟨b, off, rfl, hb, x1, x2⟩ := row_at hc3 0 (by rw [exL_len]; omega) B7.out
  obtain ⟨b', off', e', _, y1, y2⟩ := row_at hc3 1 (by rw [exL_len]; omega) B7.out
  cases e'
  rw [exL_0] at x1 x2
  rw [exL_1] at y1 y2
  simp only [Nat.zero_mul, Nat.add_zero, Nat.one_mul] at x1 x2 y1 y2
  have E0 : ∀ W, Sem.run Try.prog (binOp .eql 36 (.agg #[.string ⟨#[97]⟩, .string ⟨#[120, 121]⟩]) (.agg #[.string ⟨#[97]⟩, .string ⟨#[120, 121]⟩])) W = .ok (.bool true) W := fun W => eqlP (x := (⟨#[97]⟩, ⟨#[120, 121]⟩)) (y := (⟨#[97]⟩, ⟨#[120, 121]⟩)) rfl W
  have E1 : ∀ W, Sem.run Try.prog (binOp .eql 36 (.agg #[.string ⟨#[98]⟩, .string ⟨#[50]⟩]) (.agg #[.string ⟨#[98]⟩, .string ⟨#[50]⟩])) W = .ok (.bool true) W := fun W => eqlP (x := (⟨#[98]⟩, ⟨#[50]⟩)) (y := (⟨#[98]⟩, ⟨#[50]⟩)) rfl W
  have G0 : ∀ (op : BinOp) (a b : Operand) (W : World), Sem.run Try.prog (eqGuard op 36 a b (.agg #[.string ⟨#[97]⟩, .string ⟨#[120, 121]⟩]) (.agg #[.string ⟨#[97]⟩, .string ⟨#[120, 121]⟩])) W = .ok () W := fun op a b W => gdP (⟨#[97]⟩, ⟨#[120, 121]⟩) (⟨#[97]⟩, ⟨#[120, 121]⟩) op a b W
  have G1 : ∀ (op : BinOp) (a b : Operand) (W : World), Sem.run Try.prog (eqGuard op 36 a b (.agg #[.string ⟨#[98]⟩, .string ⟨#[50]⟩]) (.agg #[.string ⟨#[98]⟩, .string ⟨#[50]⟩])) W = .ok () W := fun op a b W => gdP (⟨#[98]⟩, ⟨#[50]⟩) (⟨#[98]⟩, ⟨#[50]⟩) op a b W
  have hlt7 : b < w7.heap.size := by have := B7.out.size; omega
  have B8 : Hid (Below w7.heap.size w7 (w7.alloc (.cells #[.string ⟨#[97]⟩, .string ⟨#[120, 121]⟩] 36))) := (Below.refl _ w7).alloc (Nat.le_refl _) _
  have CS : Hid _ := size_one w7.heap.size (⟨#[97]⟩, ⟨#[120, 121]⟩) (w7.alloc (.cells #[.string ⟨#[97]⟩, .string ⟨#[120, 121]⟩] 36)) 36 (Cl.new w7 _ _) (by rw [exS]; omega)
  rw [exS] at CS
  clear hc3 hc2 R3
  go_wp2_with fail
  refine Calls.mono CS.out ?_
  rintro e w9 ⟨rfl, b9⟩
  have B9 : Hid (Below w7.heap.size w7 w9) := B8.out.trans (b9.mono B8.out.size)
  have CH : Hid _ := half_any _ exT w9 (T7.out.below B9.out) (by decide) (by decide)
  rw [exH] at CH
  clear CS b9 B8 T7
  go_wp2_with fail
  refine Calls.mono CH.out ?_
  rintro e wx ⟨rfl, bx⟩
  have BX : Hid (Below w.heap.size w wx) := B3.out.trans ((B7.out.trans ((B9.out.trans (bx.mono B9.out.size)).mono B7.out.size)).mono B3.out.size)
  clear CH bx B9
  have K1 : Hid _ := check_any ⟨#[]⟩ ⟨#[]⟩ wx
  rw [exC.1] at K1
  have K2 : Hid _ := check_any ⟨#[97]⟩ ⟨#[]⟩ wx
  rw [exC.2] at K2
  go_wp2_with fail
  refine Calls.mono K1.out ?_
  rintro e wy ⟨rfl, rfl⟩
  go_wp2_with fail
  refine Calls.mono K2.out ?_
  rintro e wy ⟨rfl, rfl⟩
  go_wp2
  go_ret
  exact ⟨rfl, BX.out⟩

end Go.Proofs.Ytkoonogfllndhaa

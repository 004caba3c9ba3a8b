/-
  The walks of what the laws of layer 14 call: same, of, over.
-/
import Derived.Test.YtljmkajpjjdnhaaGreatDoorTdRef
import Derived.Test.YtljmkajpjjdnhaaGreatDoorTdRefA
namespace Go.Proofs.YtljmkajpjjdnhaaGreatDoor.N
open Go.Shelf Go.RowKit Go.Lib Go.Sort
set_option linter.unusedVariables false
set_option linter.unusedSectionVars false
variable [DecidableEq Dl] [Inhabited Dl] [Inhabited Th]

theorem OwnD.row {base : Nat} {w : World} {v : Value} {s : List Dl} (h : OwnD base w v s) : Row encD 5 w v s := (own_of_owns (by decide) h).row
theorem rowQ {base : Nat} {w : World} {v : Value} {s : List Dl} (h : w.ownsRow base 27 5 v s.length (flatK encD 5 s.toArray).toList) : Row encD 5 w v s := (own_of_owns (by decide) h).row
theorem RowD.to {w w' : World} {v : Value} {l : List Dl} {B : Nat} (h : Row encD 5 w v l) (hb : Below B w w') (hB : w.heap.size ≤ B) : Row encD 5 w' v l := Row.below h (hb.mono hB)

set_option maxRecDepth 100000 in
set_option maxHeartbeats 4000000 in
theorem sameD_yes (va vb : Value) (s : List Dl) (w : World) (ha : Row encD 5 w va s) (hb : Row encD 5 w vb s) (hl : s.length ≤ 100000) :
    Calls Tryz.prog 7 #[va, vb] w fun e w' => e = .returned (.bool true) ∧ Below w.heap.size w w' := by
  obtain ⟨aa, ca, rfl, _, _, a3⟩ := ha
  obtain ⟨ab, cb, rfl, _, _, b3⟩ := hb
  have A3 : Aside (s ≠ [] → ∃ b off, aa = some ⟨b, off, none⟩ ∧ b < w.heap.size ∧ CellsK encD 5 w b off s) := a3
  have B3 : Aside (s ≠ [] → ∃ b off, ab = some ⟨b, off, none⟩ ∧ b < w.heap.size ∧ CellsK encD 5 w b off s) := b3
  have E1 : Hid (∀ i : Nat, i < s.length → wrap64 ((i : Int) + 1) = (i : Int) + 1) := fun i hi => by unfold wrap64; omega
  clear a3 b3 hl
  go_enter Tryz.func7, Tryz.ntmps7
  go_wp2
  go_loopg [5] s.length (fun kx s5 wr => ∃ (i : Nat), s5 = .int .i64 i ∧ i ≤ s.length ∧ s.length - i ≤ kx ∧ Hid (Below w.heap.size w wr))
  case atStart => exact ⟨0, rfl, Nat.zero_le _, Nat.le_refl _, Below.refl _ _⟩
  case round =>
    obtain ⟨i, rfl, hi, hki, HB⟩ := hrel
    by_cases hil : i < s.length
    · have hilz : (i : Int) < (s.length : Int) := by omega
      have HI2 : Hid (i < s.length ∧ i ≤ s.length ∧ s.length - i ≤ gk) := ⟨hil, hi, hki⟩
      have e1 := E1.out i hil
      obtain ⟨b, off, rfl, hq, x0, x1, x2, x3, x4⟩ := rowD_at A3.out i hil HB.out
      obtain ⟨b', off', rfl, hq', y0, y1, y2, y3, y4⟩ := rowD_at B3.out i hil HB.out
      have q1 : b < wr.heap.size := Nat.lt_of_lt_of_le hq HB.out.size
      have q2 : b' < wr.heap.size := Nat.lt_of_lt_of_le hq' HB.out.size
      have HZ : Hid (Below w.heap.size w ((wr.alloc (.cells #[.string s[i]!.key, .string s[i]!.old, .string s[i]!.new, .bool s[i]!.was, .bool s[i]!.is] 37)).alloc (.cells #[.string s[i]!.key, .string s[i]!.old, .string s[i]!.new, .bool s[i]!.was, .bool s[i]!.is] 27))) := (HB.out.alloc HB.out.size _).alloc (by simp; exact Nat.le_succ_of_le HB.out.size) _
      clear hq hq' hil hi hki
      generalize s[i]! = d at *
      go_wp2
      go_roundg (s.length - (i + 1))
      case measure => (have := HI2.out; omega)
      case rel => exact ⟨i + 1, by simp [e1], (by have := HI2.out; omega), Nat.le_refl _, HZ⟩
    · have hilz : ¬ (i : Int) < (s.length : Int) := by omega
      obtain rfl : i = s.length := by omega
      go_wp2
      go_ret
      exact ⟨rfl, HB.out⟩


set_option maxRecDepth 100000 in
set_option maxHeartbeats 4000000 in
theorem of_any (v : Value) (s : List Dl) (w : World) (h : Row encD 5 w v s) (hl : s.length ≤ 100000) : Calls Tryz.prog 12 #[v] w (GvL w s) := by
  obtain ⟨aa, ca, rfl, _, _, a3⟩ := h
  have A3 : Aside (s ≠ [] → ∃ b off, aa = some ⟨b, off, none⟩ ∧ b < w.heap.size ∧ CellsK encD 5 w b off s) := a3
  have E1 : Hid (∀ i : Nat, i < s.length → wrap64 ((i : Int) + 1) = (i : Int) + 1) := fun i hi => by unfold wrap64; omega
  have HL : Hid (s.length ≤ 100000) := hl
  have S0 : Hid (Sep w.heap.size w w [DeR (.slice none 0 0) []]) := by
    show Sep _ _ _ _
    unfold DeR
    simpa [flatK] using Sep.nilK (e := 37) (k := 5) (Sep.nil (B := w.heap.size) (w0 := w) (w := w) (Nat.le_refl _) (Below.refl _ _))
  clear a3 hl
  go_enter Tryz.func12, Tryz.ntmps12
  go_wp2
  go_loopg [3, 4] s.length (fun kx s3 s4 wr => ∃ (i : Nat) (o : List Dl) (ao4 : Option Addr) (c4 : Nat), s3 = .slice ao4 o.length c4 ∧ s4 = .int .i64 i ∧ i ≤ s.length ∧ s.length - i ≤ kx ∧ Hid (o = s.take i) ∧ Hid (Sep w.heap.size w wr [DeR (.slice ao4 o.length c4) o]))
  case atStart => exact ⟨0, [], none, 0, rfl, rfl, Nat.zero_le _, Nat.le_refl _, rfl, S0⟩
  case round =>
    clear S0
    obtain ⟨i, o, ao4, c4, rfl, rfl, hi, hki, HO, HS⟩ := hrel
    by_cases hil : i < s.length
    · have hilz : (i : Int) < (s.length : Int) := by omega
      have HI2 : Hid (i < s.length ∧ i ≤ s.length ∧ s.length - i ≤ gk) := ⟨hil, hi, hki⟩
      have e1 := E1.out i hil
      have TN : Hid (s.take (i + 1) = o ++ [s[i]!]) := by show _ = _; rw [take_next hil, HO.out]
      have hlo : Hid (o.length < 1000000) := by
        show _ < _
        have h1 := HL.out
        have h2 : o.length ≤ i := by rw [HO.out, List.length_take]; exact Nat.min_le_left _ _
        omega
      obtain ⟨b, off, rfl, hq, x0, x1, x2, x3, x4⟩ := rowD_at A3.out i hil HS.out.bel
      clear hq hil hi hki HO
      generalize s[i]! = d at *
      have SB : Hid (Sep w.heap.size w ((wr.alloc (.cells #[.string d.key, .string d.old, .string d.new, .bool d.was, .bool d.is] 27)).alloc (dlO d)) (RowK 37 5 (.slice ao4 o.length c4) o.length (flatK encD 5 o.toArray).toList :: Blk (wr.heap.size + 1) (dlO d) :: [])) := by
        have := (HS.out.alloc (.cells #[.string d.key, .string d.old, .string d.new, .bool d.was, .bool d.is] 27)).addBlk (dlO d)
        simp only [World.size_alloc] at this
        exact this.up1
      have HNW : Hid _ := newsAt (news := encD d) SB.out.up1.blk
      clear HS
      go_upto_region 6 with fail
      go_wp2_with (at_builtin; refine appK rfl rfl infoDelta Tryz.underlying29 rfl (by decide) (by decide) _ rfl SB.out rfl HNW.out rfl (encD_one d) hlo.out ?_; intro ao5 c5 w7 s7; have S7 : Hid (Sep w.heap.size w w7 [DeR (.slice ao5 (o.length + 1) c5) (o ++ [d])]) := Sep.front [_] (l2 := [_]) (snocD s7); clear s7 SB HNW)
      go_roundg (s.length - (i + 1))
      case measure => (have := HI2.out; omega)
      case rel => exact ⟨i + 1, o ++ [d], ao5, c5, by rw [List.length_append, List.length_singleton], by simp [e1], (by have := HI2.out; omega), Nat.le_refl _, TN.out.symm, by rw [List.length_append, List.length_singleton]; exact S7⟩
    · have hilz : ¬ (i : Int) < (s.length : Int) := by omega
      obtain rfl : i = s.length := by omega
      have HO2 : Hid (o = s) := by show _ = _; rw [HO.out, List.take_length]
      clear HO
      go_wp2
      go_ret
      rw [← HO2.out]
      exact ⟨ao4, c4, rfl, ownBase HS.out, HS.out.bel⟩

def ovE (l : List En) : Bool := decide (150 < l.length) || l.any fun x => decide (60 < x.1.size) || decide (60 < x.2.size)
theorem ovE_no {l : List En} (h : ovE l = false) : l.length ≤ 150 ∧ ∀ x ∈ l, x.1.size ≤ 60 ∧ x.2.size ≤ 60 := by
  unfold ovE at h
  simp only [Bool.or_eq_false_iff, decide_eq_false_iff_not, List.any_eq_false] at h
  refine ⟨by omega, fun x hx => ?_⟩
  have := h.2 x hx
  simp only [Bool.or_eq_true, decide_eq_true_eq] at this
  omega

set_option maxHeartbeats 2000000 in
set_option maxRecDepth 100000 in
theorem overE_any (v : Value) (l : List En) (w : World) (h : Row encP 2 w v l) :
    Calls Tryz.prog 6 #[v] w fun e w' => e = .returned (.bool (ovE l)) ∧ w = w' := by
  obtain ⟨ao, cap, rfl, h1, h2, h3⟩ := h
  have H3 : Aside (l ≠ [] → ∃ b off, ao = some ⟨b, off, none⟩ ∧ b < w.heap.size ∧ CellsK encP 2 w b off l) := h3
  clear h3
  by_cases hb : 150 < l.length
  · have hbz : (150 : Int) < (l.length : Int) := by omega
    have E : Hid (ovE l = true) := by show _ = _; unfold ovE; rw [decide_eq_true hb]; rfl
    go_enter Tryz.func6, Tryz.ntmps6
    go_wp2
    go_ret
    exact ⟨ret_b E.out.symm, rfl⟩
  · have hbz : ¬ (150 : Int) < (l.length : Int) := by omega
    have hl : l.length ≤ 150 := by omega
    go_enter Tryz.func6, Tryz.ntmps6
    go_wp2
    go_loopg [3] l.length (fun kx s3 wr => ∃ (i : Nat), s3 = .int .i64 i ∧ i ≤ l.length ∧ l.length - i ≤ kx ∧ w = wr ∧ Hid (∀ x ∈ l.take i, ¬ 60 < x.1.size ∧ ¬ 60 < x.2.size))
    case atStart => exact ⟨0, rfl, Nat.zero_le _, Nat.le_refl _, rfl, fun x hx => by simp at hx⟩
    case round =>
      obtain ⟨i, rfl, hi, hki, rfl, HN⟩ := hrel
      by_cases hil : i < l.length
      · have hilz : (i : Int) < (l.length : Int) := by omega
        obtain ⟨b, off, rfl, hb, x1, x2⟩ := row_at H3.out i hil (Below.refl _ w)
        have T : Hid (l.take (i + 1) = l.take i ++ [l[i]!]) := take_next hil
        have M : Hid (l[i]! ∈ l) := bang_mem hil
        generalize l[i]! = x at *
        by_cases c1 : (60 : Int) < (x.1.size : Int)
        · have E : Hid (ovE l = true) := by
            show _ = _
            unfold ovE
            rw [Bool.or_eq_true]; right
            rw [List.any_eq_true]
            exact ⟨x, M.out, by simp; omega⟩
          clear HN
          go_wp2
          go_ret
          exact ⟨ret_b E.out.symm, rfl⟩
        · by_cases c2 : (60 : Int) < (x.2.size : Int)
          · have E : Hid (ovE l = true) := by
              show _ = _
              unfold ovE
              rw [Bool.or_eq_true]; right
              rw [List.any_eq_true]
              exact ⟨x, M.out, by simp; omega⟩
            clear HN
            go_wp2
            go_ret
            exact ⟨ret_b E.out.symm, rfl⟩
          · have N2 : Hid (∀ y ∈ l.take (i + 1), ¬ 60 < y.1.size ∧ ¬ 60 < y.2.size) := fun y hy => by
              rw [T.out] at hy
              rcases List.mem_append.1 hy with e | e
              · exact HN.out y e
              · rw [List.mem_singleton.1 e]; omega
            clear HN
            go_wp2
            go_roundg (l.length - (i + 1))
            case measure => omega
            case rel => exact ⟨i + 1, by go_num, by omega, Nat.le_refl _, rfl, N2⟩
      · have hilz : ¬ (i : Int) < (l.length : Int) := by omega
        obtain rfl : i = l.length := by omega
        rw [List.take_length] at HN
        have E : Hid (ovE l = false) := by
          show _ = _
          unfold ovE
          rw [decide_eq_false (by omega), Bool.false_or, List.any_eq_false]
          intro x hx
          have := HN.out x hx
          simp only [Bool.or_eq_true, decide_eq_true_eq]
          omega
        clear HN
        go_wp2
        go_ret
        exact ⟨ret_b E.out.symm, rfl⟩

/-- The examples' lists. -/
def exL : List En := [(⟨#[97]⟩, ⟨#[120, 121]⟩), (⟨#[98]⟩, ⟨#[50]⟩)]
def exT : List En := [(⟨#[97]⟩, ⟨#[120, 121]⟩), (⟨#[98]⟩, ⟨#[120, 121]⟩), (⟨#[99]⟩, ⟨#[120, 121]⟩)]
end Go.Proofs.YtljmkajpjjdnhaaGreatDoor.N

/-
  The walks of the document's small functions on lists: Less, Has, Same, SameChanges.
-/
import Derived.Test.YtifeeneojlhffaaAcc
import Derived.Test.YtifeeneojlhffaaRefSets
import Derived.Test.YtifeeneojlhffaaCdSmall
namespace Go.Proofs.Ytifeeneojlhffaa
open Go.Shelf Go.RowKit Go.Lib Go.Sort

theorem row_at {w wr : World} {ao : Option Addr} {l : List Pr} (h3 : l ≠ [] → ∃ b off, ao = some ⟨b, off, none⟩ ∧ b < w.heap.size ∧ CellsK encP 2 w b off l) (i : Nat) (hi : i < l.length) (hb : Below w.heap.size w wr) :
    ∃ b off, ao = some ⟨b, off, none⟩ ∧ b < w.heap.size ∧ wr.cell? ⟨b, off + i * 2, none⟩ = some (.int .i64 l[i]!.1) ∧ wr.cell? ⟨b, off + i * 2 + 1, none⟩ = some (.int .i64 l[i]!.2) := by
  obtain ⟨b, off, e, hlt, hc⟩ := h3 (by intro h; rw [h] at hi; simp at hi)
  refine ⟨b, off, e, hlt, ?_, ?_⟩
  · rw [hb.cell (p := ⟨b, off + i * 2, none⟩) hlt, hc (i * 2) (by omega), get_flatK _ _ _ _ (by simp; omega), show i * 2 / 2 = i by omega, show i * 2 % 2 = 0 by omega]
    simp [encP]
  · rw [Nat.add_assoc, hb.cell (p := ⟨b, off + (i * 2 + 1), none⟩) hlt, hc (i * 2 + 1) (by omega), get_flatK _ _ _ _ (by simp; omega), show (i * 2 + 1) / 2 = i by omega, show (i * 2 + 1) % 2 = 1 by omega]
    simp [encP]

theorem rowC_at {w wr : World} {ao : Option Addr} {l : List Ch} (h3 : l ≠ [] → ∃ b off, ao = some ⟨b, off, none⟩ ∧ b < w.heap.size ∧ CellsK encC 3 w b off l) (i : Nat) (hi : i < l.length) (hb : Below w.heap.size w wr) :
    ∃ b off, ao = some ⟨b, off, none⟩ ∧ b < w.heap.size ∧ wr.cell? ⟨b, off + i * 3, none⟩ = some (.int .i64 l[i]!.1.1) ∧ wr.cell? ⟨b, off + i * 3 + 1, none⟩ = some (.int .i64 l[i]!.1.2) ∧ wr.cell? ⟨b, off + i * 3 + 2, none⟩ = some (.bool l[i]!.2) := by
  obtain ⟨b, off, e, hlt, hc⟩ := h3 (by intro h; rw [h] at hi; simp at hi)
  refine ⟨b, off, e, hlt, ?_, ?_, ?_⟩
  · rw [hb.cell (p := ⟨b, off + i * 3, none⟩) hlt, hc (i * 3) (by omega), get_flatK _ _ _ _ (by simp; omega), show i * 3 / 3 = i by omega, show i * 3 % 3 = 0 by omega]
    simp [encC]
  · rw [Nat.add_assoc, hb.cell (p := ⟨b, off + (i * 3 + 1), none⟩) hlt, hc (i * 3 + 1) (by omega), get_flatK _ _ _ _ (by simp; omega), show (i * 3 + 1) / 3 = i by omega, show (i * 3 + 1) % 3 = 1 by omega]
    simp [encC]
  · rw [Nat.add_assoc, hb.cell (p := ⟨b, off + (i * 3 + 2), none⟩) hlt, hc (i * 3 + 2) (by omega), get_flatK _ _ _ _ (by simp; omega), show (i * 3 + 2) / 3 = i by omega, show (i * 3 + 2) % 3 = 2 by omega]
    simp [encC]

theorem eqlP {x y : Pr} {f : Bool} (h : decide (x = y) = f) (W : World) : Sem.run Try.prog (binOp .eql 25 (.agg #[.int .i64 x.1, .int .i64 x.2]) (.agg #[.int .i64 y.1, .int .i64 y.2])) W = .ok (.bool f) W := by
  have := eqlPair x y W
  rw [h] at this
  exact this
theorem neqP {x y : Pr} {f : Bool} (h : decide (x = y) = f) (W : World) : Sem.run Try.prog (binOp .neq 25 (.agg #[.int .i64 x.1, .int .i64 x.2]) (.agg #[.int .i64 y.1, .int .i64 y.2])) W = .ok (.bool !f) W := by
  have := neqPair x y W
  rw [h] at this
  exact this
theorem gdP (x y : Pr) (op : BinOp) (a b : Operand) (W : World) : Sem.run Try.prog (eqGuard op 25 a b (.agg #[.int .i64 x.1, .int .i64 x.2]) (.agg #[.int .i64 y.1, .int .i64 y.2])) W = .ok () W := gdPair op a b x y W

set_option maxHeartbeats 1000000 in
theorem less_any (x y : Pr) (w : World) : Calls Try.prog 17 #[.agg #[.int .i64 x.1, .int .i64 x.2], .agg #[.int .i64 y.1, .int .i64 y.2]] w fun e w' => e = .returned (.bool (ltP x y)) ∧ ∃ q os', w' = grow (w.drewN q) os' := by
  obtain ⟨a, b⟩ := x
  obtain ⟨c, d⟩ := y
  have HG : Hid (∃ q os', ((w.alloc (.cells #[.int .i64 a, .int .i64 b] 25)).alloc (.cells #[.int .i64 c, .int .i64 d] 25)) = grow (w.drewN q) os') := ((GR.refl w).alloc _).alloc _
  simp only
  by_cases h1 : a < c
  · have E : Hid (ltP (a, b) (c, d) = true) := by simp [Hid, ltP, h1]
    go_enter Try.func17, Try.ntmps17
    go_wp2
    go_ret
    exact ⟨ret_bool E.out.symm, HG.out⟩
  · by_cases h2 : a = c
    · subst h2
      by_cases h3 : b < d
      · have E : Hid (ltP (a, b) (a, d) = true) := by simp [Hid, ltP, h3]
        go_enter Try.func17, Try.ntmps17
        go_wp2
        go_ret
        exact ⟨ret_bool E.out.symm, HG.out⟩
      · have E : Hid (ltP (a, b) (a, d) = false) := by simp [Hid, ltP, h3]
        go_enter Try.func17, Try.ntmps17
        go_wp2
        go_ret
        exact ⟨ret_bool E.out.symm, HG.out⟩
    · have E : Hid (ltP (a, b) (c, d) = false) := by simp [Hid, ltP, h1, h2]
      have h2' : (a == c) = false := beq_eq_false_iff_ne.2 h2
      clear h2
      go_enter Try.func17, Try.ntmps17
      go_wp2
      go_ret
      exact ⟨ret_bool E.out.symm, HG.out⟩

theorem take_next {α : Type} [Inhabited α] {l : List α} {i : Nat} (h : i < l.length) : l.take (i + 1) = l.take i ++ [l[i]!] := by
  rw [List.take_add_one, List.getElem?_eq_getElem h, getElem!_pos l i h]; rfl
theorem bang_mem {α : Type} [Inhabited α] {l : List α} {i : Nat} (h : i < l.length) : l[i]! ∈ l := by
  rw [getElem!_pos l i h]; exact List.getElem_mem h

set_option maxHeartbeats 2000000 in
set_option maxRecDepth 100000 in
theorem has_any (v : Value) (l : List Pr) (p : Pr) (w : World) (h : Row encP 2 w v l) (hl : l.length ≤ 1000000) :
    Calls Try.prog 42 #[v, .agg #[.int .i64 p.1, .int .i64 p.2]] w fun e w' => e = .returned (.bool (decide (p ∈ l))) ∧ ∃ q os', w' = grow (w.drewN q) os' := by
  obtain ⟨ao, cap, rfl, h1, h2, h3⟩ := h
  have H3 : Aside (l ≠ [] → ∃ b off, ao = some ⟨b, off, none⟩ ∧ b < w.heap.size ∧ CellsK encP 2 w b off l) := h3
  have HG0 : Hid (GR w (w.alloc (.cells #[.int .i64 p.1, .int .i64 p.2] 25))) := (GR.refl w).alloc _
  clear h3
  go_enter Try.func42, Try.ntmps42
  go_wp2
  go_loopg [5] l.length (fun kx s5 wr => ∃ (i : Nat), s5 = .int .i64 i ∧ i ≤ l.length ∧ l.length - i ≤ kx ∧ Hid (GR w wr) ∧ wr.cell? ⟨w.heap.size, 0, none⟩ = some (.int .i64 p.1) ∧ wr.cell? ⟨w.heap.size, 1, none⟩ = some (.int .i64 p.2) ∧ Hid (p ∉ l.take i))
  case atStart => exact ⟨0, rfl, Nat.zero_le _, Nat.le_refl _, HG0, by simp, by simp, by simp [Hid]⟩
  case round =>
    clear HG0
    obtain ⟨i, rfl, hi, hki, HG, c0, c1, HN⟩ := hrel
    by_cases hil : i < l.length
    · have hilz : (i : Int) < (l.length : Int) := by omega
      obtain ⟨b, off, rfl, hb, x1, x2⟩ := row_at H3.out i hil HG.out.below
      have T : Hid (l.take (i + 1) = l.take i ++ [l[i]!]) := take_next hil
      have M : Hid (l[i]! ∈ l) := bang_mem hil
      generalize l[i]! = x at *
      have HD : Hid (GR w wr.drew) := HG.out.drew
      by_cases he : x = p
      · have E := fun W => eqlP (x := x) (y := p) (decide_eq_true he) W
        have G := gdP x p
        have HE : Hid (x = p) := he
        clear he
        go_wp2_with fail
        go_region
        all_goals go_wp2
        all_goals go_ret
        all_goals exact ⟨ret_bool (decide_eq_true (by rw [← HE.out]; exact M.out)).symm, HD.out⟩
      · have E := fun W => eqlP (x := x) (y := p) (decide_eq_false he) W
        have G := gdP x p
        have HE : Hid (x ≠ p) := he
        clear he
        go_wp2_with fail
        go_region
        all_goals go_wp2
        all_goals go_roundg (l.length - (i + 1))
        case measure => omega
        case rel =>
          refine ⟨i + 1, by go_num, by omega, Nat.le_refl _, HD, c0, c1, ?_⟩
          show p ∉ _
          rw [T.out, List.mem_append, List.mem_singleton]
          rintro (h | h)
          · exact HN.out h
          · exact HE.out h.symm
    · have hilz : ¬ (i : Int) < (l.length : Int) := by omega
      obtain rfl : i = l.length := by omega
      rw [List.take_length] at HN
      go_wp2
      go_ret
      exact ⟨ret_bool (decide_eq_false HN.out).symm, HG.out⟩

set_option maxHeartbeats 2000000 in
set_option maxRecDepth 100000 in
theorem same_any (va vb : Value) (a b : List Pr) (w : World) (ha : Row encP 2 w va a) (hb : Row encP 2 w vb b) (hl : a.length ≤ 1000000) (hl2 : b.length ≤ 1000000) :
    Calls Try.prog 18 #[va, vb] w fun e w' => e = .returned (.bool (decide (a = b))) ∧ Below w.heap.size w w' := by
  obtain ⟨ao, ca, rfl, a1, a2, a3⟩ := ha
  obtain ⟨bo, cb, rfl, b1, b2, b3⟩ := hb
  have A3 : Aside (a ≠ [] → ∃ b off, ao = some ⟨b, off, none⟩ ∧ b < w.heap.size ∧ CellsK encP 2 w b off a) := a3
  have B3 : Aside (b ≠ [] → ∃ b' off, bo = some ⟨b', off, none⟩ ∧ b' < w.heap.size ∧ CellsK encP 2 w b' off b) := b3
  clear a3 b3
  by_cases hlen : a.length = b.length
  · have HL : Hid (a.length = b.length) := hlen
    have hle1 : a.length ≤ b.length := by omega
    have hle2 : b.length ≤ a.length := by omega
    have hneq : ((a.length : Int) != (b.length : Int)) = false := by simp; omega
    clear hlen
    go_enter Try.func18, Try.ntmps18
    go_wp2
    go_loopg [5] a.length (fun kx s5 wr => ∃ (i : Nat), s5 = .int .i64 i ∧ i ≤ a.length ∧ a.length - i ≤ kx ∧ Hid (GR w wr) ∧ Hid (a.take i = b.take i))
    case atStart => exact ⟨0, rfl, Nat.zero_le _, Nat.le_refl _, GR.refl _, by simp [Hid]⟩
    case round =>
      obtain ⟨i, rfl, hi, hki, HG, HN⟩ := hrel
      by_cases hil : i < a.length
      · have hilz : (i : Int) < (a.length : Int) := by omega
        have hilb : i < b.length := by omega
        obtain ⟨ba, oa, rfl, hba, x1, x2⟩ := row_at A3.out i hil HG.out.below
        obtain ⟨bb, ob, rfl, hbb, y1, y2⟩ := row_at B3.out i hilb HG.out.below
        have T : Hid (a.take (i + 1) = a.take i ++ [a[i]!]) := take_next hil
        have T2 : Hid (b.take (i + 1) = b.take i ++ [b[i]!]) := take_next hilb
        generalize a[i]! = x at *
        generalize b[i]! = y at *
        have HD : Hid (GR w wr.drew) := HG.out.drew
        by_cases he : x = y
        · have E := fun W => neqP (x := x) (y := y) (decide_eq_true he) W
          have G := gdP x y
          have HE : Hid (x = y) := he
          clear he
          simp only [Bool.not_true] at E
          go_wp2_with fail
          go_region
          all_goals go_wp2
          all_goals go_roundg (a.length - (i + 1))
          case measure => omega
          case rel =>
            refine ⟨i + 1, by go_num, by omega, Nat.le_refl _, HD, ?_⟩
            show _ = _
            rw [T.out, T2.out, HN.out, HE.out]
        · have E := fun W => neqP (x := x) (y := y) (decide_eq_false he) W
          have G := gdP x y
          have HE : Hid (x ≠ y) := he
          clear he
          simp only [Bool.not_false] at E
          go_wp2_with fail
          go_region
          all_goals go_wp2
          all_goals go_ret
          all_goals
            refine ⟨ret_bool (decide_eq_false fun h => HE.out ?_).symm, HD.out.below⟩
            subst h
            have := T.out.symm.trans T2.out
            simpa using this
      · have hilz : ¬ (i : Int) < (a.length : Int) := by omega
        obtain rfl : i = a.length := by omega
        go_wp2
        go_ret
        refine ⟨ret_bool (decide_eq_true ?_).symm, HG.out.below⟩
        have := HN.out
        rw [List.take_length, HL.out, List.take_length] at this
        exact this
  · have hneq : ((a.length : Int) != (b.length : Int)) = true := by simp; omega
    have HL : Hid (a.length ≠ b.length) := hlen
    clear hlen
    go_enter Try.func18, Try.ntmps18
    go_wp2
    go_ret
    exact ⟨ret_bool (decide_eq_false fun h => HL.out (by rw [h])).symm, Below.refl _ _⟩

theorem equalPair9 (a b c d : Int) (w : World) : (Op.equalIn 9999 25 (.agg #[.int .i64 a, .int .i64 b]) (.agg #[.int .i64 c, .int .i64 d])).run Try.prog w = .ok (decide ((a, b) = (c, d))) w := by
  have u3 := Try.underlying3
  have a3 := Try.isAgg3
  have z3 := Try.sizeOf3
  have hS : Try.prog.underlying 25 = some (.struct (Try.prog.fieldsOf 25)) := by kernel_rfl
  have hp : Try.prog.stoodInHeld 25 = false := by kernel_rfl
  rw [show (9999 : Nat) = 9998 + 1 from rfl, run_equalIn_agg w 9998 25 _ _ hS hp]
  simp only [Program.fieldsOf, Try.underlying25]
  go_simp
  by_cases h1 : a = c <;> by_cases h2 : b = d <;> simp [h1, h2]

theorem equalChange (x y : Ch) (w : World) : (Op.equalIn 10000 50 (.agg #[.int .i64 x.1.1, .int .i64 x.1.2, .bool x.2]) (.agg #[.int .i64 y.1.1, .int .i64 y.1.2, .bool y.2])).run Try.prog w = .ok (decide (x = y)) w := by
  obtain ⟨⟨a, b⟩, e⟩ := x
  obtain ⟨⟨c, d⟩, f⟩ := y
  have u4 := Try.underlying4
  have a4 := Try.isAgg4
  have z4 := Try.sizeOf4
  have aP := Try.isAgg25
  have zP := Try.sizeOf25
  have EP := equalPair9 a b c d
  have hS : Try.prog.underlying 50 = some (.struct (Try.prog.fieldsOf 50)) := by kernel_rfl
  have hp : Try.prog.stoodInHeld 50 = false := by kernel_rfl
  rw [show (10000 : Nat) = 9999 + 1 from rfl, run_equalIn_agg w 9999 50 _ _ hS hp]
  simp only [Program.fieldsOf, Try.underlying50]
  go_simp
  by_cases h1 : (a, b) = (c, d) <;> cases e <;> cases f <;> simp_all

theorem eqlC {x y : Ch} {f : Bool} (h : decide (x = y) = f) (W : World) : Sem.run Try.prog (binOp .eql 50 (.agg #[.int .i64 x.1.1, .int .i64 x.1.2, .bool x.2]) (.agg #[.int .i64 y.1.1, .int .i64 y.1.2, .bool y.2])) W = .ok (.bool f) W := by
  rw [run_eql_struct, equalChange, ← h]
  rfl
theorem neqC {x y : Ch} {f : Bool} (h : decide (x = y) = f) (W : World) : Sem.run Try.prog (binOp .neq 50 (.agg #[.int .i64 x.1.1, .int .i64 x.1.2, .bool x.2]) (.agg #[.int .i64 y.1.1, .int .i64 y.1.2, .bool y.2])) W = .ok (.bool !f) W := by
  rw [run_neq_struct, equalChange, ← h]
  rfl
theorem gdC (x y : Ch) (op : BinOp) (a b : Operand) (W : World) : Sem.run Try.prog (eqGuard op 50 a b (.agg #[.int .i64 x.1.1, .int .i64 x.1.2, .bool x.2]) (.agg #[.int .i64 y.1.1, .int .i64 y.1.2, .bool y.2])) W = .ok () W :=
  GuardAt.agg (P := Try.prog) (T := 50) (fun x : Ch => (encC x).toArray) (by kernel_rfl) op a b x y W

set_option maxHeartbeats 2000000 in
set_option maxRecDepth 100000 in
theorem sameC_any (va vb : Value) (a b : List Ch) (w : World) (ha : Row encC 3 w va a) (hb : Row encC 3 w vb b) (hl : a.length ≤ 1000000) (hl2 : b.length ≤ 1000000) :
    Calls Try.prog 23 #[va, vb] w fun e w' => e = .returned (.bool (decide (a = b))) ∧ Below w.heap.size w w' := by
  obtain ⟨ao, ca, rfl, a1, a2, a3⟩ := ha
  obtain ⟨bo, cb, rfl, b1, b2, b3⟩ := hb
  have A3 : Aside (a ≠ [] → ∃ b off, ao = some ⟨b, off, none⟩ ∧ b < w.heap.size ∧ CellsK encC 3 w b off a) := a3
  have B3 : Aside (b ≠ [] → ∃ b' off, bo = some ⟨b', off, none⟩ ∧ b' < w.heap.size ∧ CellsK encC 3 w b' off b) := b3
  clear a3 b3
  by_cases hlen : a.length = b.length
  · have HL : Hid (a.length = b.length) := hlen
    have hle1 : a.length ≤ b.length := by omega
    have hle2 : b.length ≤ a.length := by omega
    have hneq : ((a.length : Int) != (b.length : Int)) = false := by simp; omega
    clear hlen
    go_enter Try.func23, Try.ntmps23
    go_wp2
    go_loopg [5] a.length (fun kx s5 wr => ∃ (i : Nat), s5 = .int .i64 i ∧ i ≤ a.length ∧ a.length - i ≤ kx ∧ Hid (GR w wr) ∧ Hid (a.take i = b.take i))
    case atStart => exact ⟨0, rfl, Nat.zero_le _, Nat.le_refl _, GR.refl _, by simp [Hid]⟩
    case round =>
      obtain ⟨i, rfl, hi, hki, HG, HN⟩ := hrel
      by_cases hil : i < a.length
      · have hilz : (i : Int) < (a.length : Int) := by omega
        have hilb : i < b.length := by omega
        obtain ⟨ba, oa, rfl, hba, x1, x2, x3⟩ := rowC_at A3.out i hil HG.out.below
        obtain ⟨bb, ob, rfl, hbb, y1, y2, y3⟩ := rowC_at B3.out i hilb HG.out.below
        have T : Hid (a.take (i + 1) = a.take i ++ [a[i]!]) := take_next hil
        have T2 : Hid (b.take (i + 1) = b.take i ++ [b[i]!]) := take_next hilb
        generalize a[i]! = x at *
        generalize b[i]! = y at *
        have HD : Hid (GR w wr.drew) := HG.out.drew
        by_cases he : x = y
        · have E := fun W => neqC (x := x) (y := y) (decide_eq_true he) W
          have G := gdC x y
          have HE : Hid (x = y) := he
          clear he
          simp only [Bool.not_true] at E
          go_wp2_with fail
          go_region
          all_goals go_wp2
          all_goals go_roundg (a.length - (i + 1))
          case measure => omega
          case rel =>
            refine ⟨i + 1, by go_num, by omega, Nat.le_refl _, HD, ?_⟩
            show _ = _
            rw [T.out, T2.out, HN.out, HE.out]
        · have E := fun W => neqC (x := x) (y := y) (decide_eq_false he) W
          have G := gdC x y
          have HE : Hid (x ≠ y) := he
          clear he
          simp only [Bool.not_false] at E
          go_wp2_with fail
          go_region
          all_goals go_wp2
          all_goals go_ret
          all_goals
            refine ⟨ret_bool (decide_eq_false fun h => HE.out ?_).symm, HD.out.below⟩
            subst h
            have := T.out.symm.trans T2.out
            simpa using this
      · have hilz : ¬ (i : Int) < (a.length : Int) := by omega
        obtain rfl : i = a.length := by omega
        go_wp2
        go_ret
        refine ⟨ret_bool (decide_eq_true ?_).symm, HG.out.below⟩
        have := HN.out
        rw [List.take_length, HL.out, List.take_length] at this
        exact this
  · have hneq : ((a.length : Int) != (b.length : Int)) = true := by simp; omega
    have HL : Hid (a.length ≠ b.length) := hlen
    clear hlen
    go_enter Try.func23, Try.ntmps23
    go_wp2
    go_ret
    exact ⟨ret_bool (decide_eq_false fun h => HL.out (by rw [h])).symm, Below.refl _ _⟩

end Go.Proofs.Ytifeeneojlhffaa

/-
  The walks of the document's Put, Sort, Minus and Apply.
-/
import Derived.Test.YtifeeneojlhffaaRefOps
import Derived.Test.YtifeeneojlhffaaOps
namespace Go.Proofs.Ytifeeneojlhffaa
open Go.Shelf Go.RowKit Go.Lib Go.Sort

theorem drop_here {α : Type} [Inhabited α] {l : List α} {i : Nat} (h : i < l.length) : l.drop i = l[i]! :: l.drop (i + 1) := by
  rw [List.drop_eq_getElem_cons h, getElem!_pos l i h]
theorem below_grown {B : Nat} {w W : World} (h : Below B w W) (hB : B ≤ W.heap.size) (n : Nat) (os : Array Obj) : Below B w (grow (W.drewN n) os) := h.trans ((GR.below (w := W) ⟨n, os, rfl⟩).mono hB)

set_option maxHeartbeats 8000000 in
set_option maxRecDepth 100000 in
theorem rput_any (v : Value) (l : List Pr) (p : Pr) (w : World) (h : Row encP 2 w v l) (hl : l.length ≤ 50000) :
    Calls Try.prog 40 #[v, .agg #[.int .i64 p.1, .int .i64 p.2]] w fun e w' => ∃ v', e = .returned v' ∧ Own encP 2 w.heap.size w' v' (putL l p) ∧ Below w.heap.size w w' := by
  have mixed : Try.prog.follows .mixedOrders = true := by kernel_rfl
  have B00 : Below w.heap.size w (w.alloc (.cells #[.int .i64 p.1, .int .i64 p.2] 25)) := (Below.refl _ w).alloc (Nat.le_refl _) _
  have HC : Hid _ := has_any v l p _ (h.below B00) (by omega)
  obtain ⟨ao, cap, rfl, h1, h2, h3⟩ := h
  have H3 : Aside (l ≠ [] → ∃ b off, ao = some ⟨b, off, none⟩ ∧ b < w.heap.size ∧ CellsK encP 2 w b off l) := h3
  have B0 : Hid (Below w.heap.size w (w.alloc (.cells #[.int .i64 p.1, .int .i64 p.2] 25))) := B00
  have p0 : (w.alloc (.cells #[.int .i64 p.1, .int .i64 p.2] 25)).cell? ⟨w.heap.size, 0, none⟩ = some (.int .i64 p.1) := by simp
  have p1 : (w.alloc (.cells #[.int .i64 p.1, .int .i64 p.2] 25)).cell? ⟨w.heap.size, 1, none⟩ = some (.int .i64 p.2) := by simp
  have hz : (w.alloc (.cells #[.int .i64 p.1, .int .i64 p.2] 25)).heap.size ≥ w.heap.size + 1 := by simp
  have HP : Hid (putL l p = putF p (decide (p ∈ l)) l) := rfl
  clear h3 B00
  generalize decide (p ∈ l) = d0 at HC HP
  go_enter Try.func40, Try.ntmps40
  go_wp2_with fail
  generalize w.alloc (.cells #[.int .i64 p.1, .int .i64 p.2] 25) = w0 at B0 p0 p1 hz HC ⊢
  have HPC : Aside (∀ W, Below w0.heap.size w0 W → W.cell? ⟨w.heap.size, 0, none⟩ = some (.int .i64 p.1) ∧ W.cell? ⟨w.heap.size, 1, none⟩ = some (.int .i64 p.2)) := fun W hW => ⟨by rw [hW.cell (p := ⟨w.heap.size, 0, none⟩) (by simp; omega)]; exact p0, by rw [hW.cell (p := ⟨w.heap.size, 1, none⟩) (by simp; omega)]; exact p1⟩
  clear p0 p1
  refine Calls.mono HC.out ?_
  rintro e w1 ⟨rfl, hg1⟩
  have B1 : Hid (Below w0.heap.size w0 w1) := GR.below hg1
  clear hg1 HC
  go_wp2
  go_loopg [5, 6, 7] l.length (fun kx s5 s6 s7 wr => ∃ (i : Nat) (ao' : Option Addr) (n' c' : Nat) (dn : Bool) (out : List Pr), s5 = .slice ao' n' c' ∧ s6 = .bool dn ∧ s7 = .int .i64 i ∧ i ≤ l.length ∧ l.length - i ≤ kx ∧ out.length ≤ 2 * i ∧ Aside (OwnP w0.heap.size wr (.slice ao' n' c') out) ∧ Hid (Below w0.heap.size w0 wr) ∧ Hid (out ++ putF p dn (l.drop i) = putF p d0 l))
  case atStart => exact ⟨0, none, 0, 0, d0, [], rfl, rfl, rfl, Nat.zero_le _, Nat.le_refl _, by simp, OwnP.empty _ _, B1, rfl⟩
  case round =>
    clear B1
    obtain ⟨i, ao', n', c', dn, out, rfl, rfl, rfl, hi, hki, hout, HO, HB, HE⟩ := hrel
    have hsz : w0.heap.size ≤ wr.heap.size := HB.out.size
    by_cases hil : i < l.length
    · have hilz : (i : Int) < (l.length : Int) := by omega
      obtain ⟨b, off, rfl, hb, x1, x2⟩ := row_at H3.out i hil B0.out
      have HD : Hid (l.drop i = l[i]! :: l.drop (i + 1)) := drop_here hil
      generalize l[i]! = x at *
      have HXC : Aside (∀ W, Below w0.heap.size w0 W → W.cell? ⟨b, off + i * 2, none⟩ = some (.int .i64 x.1) ∧ W.cell? ⟨b, off + i * 2 + 1, none⟩ = some (.int .i64 x.2)) := fun W hW => ⟨by rw [hW.cell (p := ⟨b, off + i * 2, none⟩) (by simp; omega)]; exact x1, by rw [hW.cell (p := ⟨b, off + i * 2 + 1, none⟩) (by simp; omega)]; exact x2⟩
      clear x1 x2
      cases dn with
      | true =>
        have HE2 : Hid ((out ++ [x]) ++ putF p true (l.drop (i + 1)) = putF p d0 l) := by
          show _ = _
          rw [← HE.out, HD.out, putF_true, putF_true]; simp
        clear HE HD
        go_wp2_with fail
        go_quiet_grown (fail)
        have HO2 : Aside (OwnP w0.heap.size (grow (wr.drewN nq) osq) (.slice ao' n' c') out) := ownsRow_grown HO.out nq osq
        have HB2 : Hid (Below w0.heap.size w0 (grow (wr.drewN nq) osq)) := below_grown HB.out hsz nq osq
        clear HO HB
        generalize grow (wr.drewN nq) osq = w2 at HO2 HB2 ⊢
        have hs2 : w0.heap.size ≤ w2.heap.size := HB2.out.size
        obtain ⟨x3, x4⟩ := HXC.out w2 HB2.out
        go_wp2_with (at_builtin; refine app_pair rfl _ _ rfl w0.heap.size _ out rfl (HO2.out.alloc _) w2.heap.size 0 1 rfl x (by simp) (by simp) (by omega) (by simp; omega) ?_)
        intro ao2 n2 c2 w3 HO3 HB3
        have HO4 : Aside (OwnP w0.heap.size w3 (.slice ao2 n2 c2) (out ++ [x])) := HO3
        have HB4 : Hid (Below w0.heap.size w0 w3) := HB3 _ (HB2.out.alloc hs2 _)
        clear HO3 HB3 HO2 HB2 x3 x4
        go_wp2
        go_roundg (l.length - (i + 1))
        case measure => omega
        case rel => exact ⟨i + 1, ao2, n2, c2, true, out ++ [x], rfl, rfl, by go_num, by omega, Nat.le_refl _, by simp; omega, HO4, HB4, HE2⟩
      | false =>
        obtain ⟨q0, q1⟩ := HPC.out wr HB.out
        obtain ⟨y0, y1⟩ := HXC.out wr HB.out
        have Q0 : ∀ n os, (grow (wr.drewN n) os).cell? ⟨w.heap.size, 0, none⟩ = some (.int .i64 p.1) := cell_grown (by simp; omega) q0
        have Q1 : ∀ n os, (grow (wr.drewN n) os).cell? ⟨w.heap.size, 1, none⟩ = some (.int .i64 p.2) := cell_grown (by simp; omega) q1
        have X1 : ∀ n os, (grow (wr.drewN n) os).cell? ⟨b, off + i * 2, none⟩ = some (.int .i64 x.1) := cell_grown (by simp; omega) y0
        have X2 : ∀ n os, (grow (wr.drewN n) os).cell? ⟨b, off + i * 2 + 1, none⟩ = some (.int .i64 x.2) := cell_grown (by simp; omega) y1
        have hlg : ∀ n os, Calls Try.prog 17 #[.agg #[.int .i64 p.1, .int .i64 p.2], .agg #[.int .i64 x.1, .int .i64 x.2]] (grow (wr.drewN n) os) fun e w' => e = .returned (.bool (ltP p x)) ∧ ∃ q os', w' = grow ((grow (wr.drewN n) os).drewN q) os' := fun n os => less_any p x _
        clear q0 q1 y0 y1
        cases hf : ltP p x with
        | true =>
          rw [hf] at hlg
          have HE2 : Hid ((out ++ [p, x]) ++ putF p true (l.drop (i + 1)) = putF p d0 l) := by
            show _ = _
            rw [← HE.out, HD.out, putF, if_pos (by rw [hf]; rfl)]; simp
          clear HE HD hf
          go_wp2_with fail
          go_quiet_grown (first | (go_at_call 17; refine Calls.grown_of (hlg _ _)))
          have HO2 : Aside (OwnP w0.heap.size (grow (wr.drewN nq) osq) (.slice ao' n' c') out) := ownsRow_grown HO.out nq osq
          have HB2 : Hid (Below w0.heap.size w0 (grow (wr.drewN nq) osq)) := below_grown HB.out hsz nq osq
          clear HO HB hlg Q0 Q1 X1 X2
          generalize grow (wr.drewN nq) osq = w2 at HO2 HB2 ⊢
          have hs2 : w0.heap.size ≤ w2.heap.size := HB2.out.size
          obtain ⟨x3, x4⟩ := HPC.out w2 HB2.out
          go_wp2_with (at_builtin; refine app_pair rfl _ _ rfl w0.heap.size _ out rfl (HO2.out.alloc _) w2.heap.size 0 1 rfl p (by simp) (by simp) (by omega) (by simp; omega) ?_)
          intro ao2 n2 c2 w3 HO3 HB3
          have HO4 : Aside (OwnP w0.heap.size w3 (.slice ao2 n2 c2) (out ++ [p])) := HO3
          have HB4 : Hid (Below w0.heap.size w0 w3) := HB3 _ (HB2.out.alloc hs2 _)
          have hs3 : w0.heap.size ≤ w3.heap.size := HB4.out.size
          clear HO3 HB3 HO2 HB2 x3 x4
          obtain ⟨x3, x4⟩ := HXC.out w3 HB4.out
          go_wp2_with (at_builtin; refine app_pair rfl _ _ rfl w0.heap.size _ (out ++ [p]) rfl (HO4.out.alloc _) w3.heap.size 0 1 rfl x (by simp) (by simp) (by simp; omega) (by simp; omega) ?_)
          intro ao3 n3 c3 w4 HO5 HB5
          have HO6 : Aside (OwnP w0.heap.size w4 (.slice ao3 n3 c3) (out ++ [p, x])) := HO5
          have HB6 : Hid (Below w0.heap.size w0 w4) := HB5 _ (HB4.out.alloc hs3 _)
          clear HO5 HB5 HO4 HB4 x3 x4
          go_wp2
          go_roundg (l.length - (i + 1))
          case measure => omega
          case rel => exact ⟨i + 1, ao3, n3, c3, true, out ++ [p, x], rfl, rfl, by go_num, by omega, Nat.le_refl _, by simp; omega, HO6, HB6, HE2⟩
        | false =>
          rw [hf] at hlg
          have HE2 : Hid ((out ++ [x]) ++ putF p false (l.drop (i + 1)) = putF p d0 l) := by
            show _ = _
            rw [← HE.out, HD.out, putF, if_neg (by rw [hf]; simp)]; simp
          clear HE HD hf
          go_wp2_with fail
          go_quiet_grown (first | (go_at_call 17; refine Calls.grown_of (hlg _ _)))
          have HO2 : Aside (OwnP w0.heap.size (grow (wr.drewN nq) osq) (.slice ao' n' c') out) := ownsRow_grown HO.out nq osq
          have HB2 : Hid (Below w0.heap.size w0 (grow (wr.drewN nq) osq)) := below_grown HB.out hsz nq osq
          clear HO HB hlg Q0 Q1 X1 X2
          generalize grow (wr.drewN nq) osq = w2 at HO2 HB2 ⊢
          have hs2 : w0.heap.size ≤ w2.heap.size := HB2.out.size
          obtain ⟨x3, x4⟩ := HXC.out w2 HB2.out
          go_wp2_with (at_builtin; refine app_pair rfl _ _ rfl w0.heap.size _ out rfl (HO2.out.alloc _) w2.heap.size 0 1 rfl x (by simp) (by simp) (by omega) (by simp; omega) ?_)
          intro ao2 n2 c2 w3 HO3 HB3
          have HO4 : Aside (OwnP w0.heap.size w3 (.slice ao2 n2 c2) (out ++ [x])) := HO3
          have HB4 : Hid (Below w0.heap.size w0 w3) := HB3 _ (HB2.out.alloc hs2 _)
          clear HO3 HB3 HO2 HB2 x3 x4
          go_wp2
          go_roundg (l.length - (i + 1))
          case measure => omega
          case rel => exact ⟨i + 1, ao2, n2, c2, false, out ++ [x], rfl, rfl, by go_num, by omega, Nat.le_refl _, by simp; omega, HO4, HB4, HE2⟩
    · have hilz : ¬ (i : Int) < (l.length : Int) := by omega
      obtain rfl : i = l.length := by omega
      have HE2 : Hid (out ++ putF p dn [] = putF p d0 l) := by have := HE.out; rw [List.drop_length] at this; exact this
      clear HE
      cases dn with
      | true =>
        have HE3 : Hid (putL l p = out) := by rw [HP.out, ← HE2.out]; simp [Hid, putF]
        go_wp2
        go_ret
        rw [HE3.out]
        exact ⟨_, rfl, Own.mono HO.out.own (by omega), B0.out.trans (HB.out.mono (by omega))⟩
      | false =>
        have HE3 : Hid (putL l p = out ++ [p]) := by rw [HP.out, ← HE2.out]; simp [Hid, putF]
        obtain ⟨x3, x4⟩ := HPC.out wr HB.out
        go_wp2_with (at_builtin; refine app_pair rfl _ _ rfl w0.heap.size _ out rfl (HO.out.alloc _) wr.heap.size 0 1 rfl p (by simp) (by simp) (by omega) (by simp; omega) ?_)
        intro ao2 n2 c2 w3 HO3 HB3
        have HO4 : Aside (OwnP w0.heap.size w3 (.slice ao2 n2 c2) (out ++ [p])) := HO3
        have HB4 : Hid (Below w0.heap.size w0 w3) := HB3 _ (HB.out.alloc hsz _)
        clear HO3 HB3 x3 x4
        go_wp2
        go_ret
        rw [HE3.out]
        exact ⟨_, rfl, Own.mono HO4.out.own (by omega), B0.out.trans (HB4.out.mono (by omega))⟩

set_option maxHeartbeats 4000000 in
set_option maxRecDepth 100000 in
theorem rsort_any (v : Value) (l : List Pr) (w : World) (h : Row encP 2 w v l) (hl : l.length ≤ 40000) :
    Calls Try.prog 20 #[v] w fun e w' => ∃ v', e = .returned v' ∧ Own encP 2 w.heap.size w' v' (sortL l) ∧ Below w.heap.size w w' := by
  obtain ⟨ao, cap, rfl, h1, h2, h3⟩ := h
  have H3 : Aside (l ≠ [] → ∃ b off, ao = some ⟨b, off, none⟩ ∧ b < w.heap.size ∧ CellsK encP 2 w b off l) := h3
  clear h3
  go_enter Try.func20, Try.ntmps20
  go_wp2
  go_loopg [3, 4] l.length (fun kx s3 s4 wr => ∃ (i : Nat) (ao' : Option Addr) (n' c' : Nat), s3 = .slice ao' n' c' ∧ s4 = .int .i64 i ∧ i ≤ l.length ∧ l.length - i ≤ kx ∧ Aside (Own encP 2 w.heap.size wr (.slice ao' n' c') (sortL (l.take i))) ∧ Hid (Below w.heap.size w wr))
  case atStart => exact ⟨0, none, 0, 0, rfl, rfl, Nat.zero_le _, Nat.le_refl _, Own.nil, Below.refl _ _⟩
  case round =>
    obtain ⟨i, ao', n', c', rfl, rfl, hi, hki, HO, HB⟩ := hrel
    have hsz : w.heap.size ≤ wr.heap.size := HB.out.size
    by_cases hil : i < l.length
    · have hilz : (i : Int) < (l.length : Int) := by omega
      obtain ⟨b, off, rfl, hb, x1, x2⟩ := row_at H3.out i hil HB.out
      have hlen : (sortL (l.take i)).length ≤ 40000 := Nat.le_trans (sortL_spec _).2.2 (by simp; omega)
      have T : Hid (sortL (l.take (i + 1)) = putL (sortL (l.take i)) l[i]!) := by rw [take_next hil]; simp [Hid, sortL, List.foldl_append]
      generalize l[i]! = x at *
      have HC : Hid _ := rput_any _ (sortL (l.take i)) x wr HO.out.row (by omega)
      clear HO
      go_wp2_with (go_at_call 40; refine Calls.mono HC.out ?_; rintro e w1 ⟨v1, rfl, o1, b1⟩)
      have O1 : Aside (Own encP 2 w.heap.size w1 v1 (putL (sortL (l.take i)) x)) := Own.mono o1 hsz
      have B1 : Hid (Below w.heap.size w w1) := HB.out.trans (b1.mono hsz)
      obtain ⟨y1, z1, rfl, _⟩ := id o1
      clear o1 b1 HC
      go_wp2
      go_roundg (l.length - (i + 1))
      case measure => omega
      case rel =>
        refine ⟨i + 1, _, _, _, rfl, by go_num, by omega, Nat.le_refl _, ?_, B1⟩
        rw [T.out]
        exact O1
    · have hilz : ¬ (i : Int) < (l.length : Int) := by omega
      obtain rfl : i = l.length := by omega
      rw [List.take_length] at HO
      go_wp2
      go_ret
      exact ⟨_, rfl, HO.out, HB.out⟩

set_option maxHeartbeats 4000000 in
set_option maxRecDepth 100000 in
theorem rminus_any (va vb : Value) (a b : List Pr) (w : World) (ha : Row encP 2 w va a) (hb : Row encP 2 w vb b) (hl : a.length ≤ 40000) (hl2 : b.length ≤ 40000) :
    Calls Try.prog 22 #[va, vb] w fun e w' => ∃ v' m, e = .returned v' ∧ Own encP 2 w.heap.size w' v' m ∧ minusOf a b m ∧ m.length ≤ a.length ∧ Below w.heap.size w w' := by
  have HS : Hid _ := rsort_any va a w ha hl
  have HB0 : Hid (Row encP 2 w vb b) := hb
  obtain ⟨aoa, ca, rfl, _⟩ := id ha
  obtain ⟨aob, cb, rfl, _⟩ := id hb
  clear ha hb
  go_enter Try.func22, Try.ntmps22
  go_wp2_with fail
  refine Calls.mono HS.out ?_
  rintro e w1 ⟨v1, rfl, o1, b1⟩
  have hs1 : w.heap.size ≤ w1.heap.size := b1.size
  have B1 : Hid (Below w.heap.size w w1) := b1
  have RB : Aside (Row encP 2 w1 (.slice aob b.length cb) b) := HB0.out.below b1
  obtain ⟨SP1, SP2, SP3⟩ := sortL_spec a
  have HSS : Hid (SS (sortL a)) := SP1
  have HSM : Hid (∀ x, x ∈ sortL a ↔ x ∈ a) := SP2
  clear HS HB0 b1 SP1 SP2
  generalize sortL a = s at *
  obtain ⟨ao, cap, rfl, h1, h2, h3⟩ := o1.row
  have H3 : Aside (s ≠ [] → ∃ b off, ao = some ⟨b, off, none⟩ ∧ b < w1.heap.size ∧ CellsK encP 2 w1 b off s) := h3
  clear h3 o1
  go_wp2
  go_loopg [5, 7] s.length (fun kx s5 s7 wr => ∃ (i : Nat) (ao' : Option Addr) (n' c' : Nat), s5 = .slice ao' n' c' ∧ s7 = .int .i64 i ∧ i ≤ s.length ∧ s.length - i ≤ kx ∧ Aside (OwnP w1.heap.size wr (.slice ao' n' c') ((s.take i).filter fun x => !decide (x ∈ b))) ∧ Hid (Below w1.heap.size w1 wr))
  case atStart => exact ⟨0, none, 0, 0, rfl, rfl, Nat.zero_le _, Nat.le_refl _, OwnP.empty _ _, Below.refl _ _⟩
  case round =>
    obtain ⟨i, ao', n', c', rfl, rfl, hi, hki, HO, HB⟩ := hrel
    have hsz : w1.heap.size ≤ wr.heap.size := HB.out.size
    by_cases hil : i < s.length
    · have hilz : (i : Int) < (s.length : Int) := by omega
      obtain ⟨bk, off, rfl, hbk, x1, x2⟩ := row_at H3.out i hil HB.out
      have T : Hid (s.take (i + 1) = s.take i ++ [s[i]!]) := take_next hil
      have HL : ((s.take i).filter fun x => !decide (x ∈ b)).length ≤ 40000 := Nat.le_trans (List.length_filter_le _ _) (by simp; omega)
      generalize s[i]! = x at *
      have HC := has_any _ b x wr (RB.out.below HB.out) (by omega)
      by_cases he : x ∈ b
      · rw [decide_eq_true he] at HC
        have HC2 : Hid _ := HC
        have HF : Hid (((s.take (i + 1)).filter fun x => !decide (x ∈ b)) = ((s.take i).filter fun x => !decide (x ∈ b))) := by rw [T.out, List.filter_append]; simp [Hid, he]
        clear HC he
        go_wp2_with (go_at_call 42; refine Calls.mono HC2.out ?_; rintro e w2 ⟨rfl, q, os, rfl⟩)
        have HO2 : Aside (OwnP w1.heap.size (grow (wr.drewN q) os) (.slice ao' n' c') ((s.take i).filter fun x => !decide (x ∈ b))) := ownsRow_grown HO.out q os
        have HB2 : Hid (Below w1.heap.size w1 (grow (wr.drewN q) os)) := below_grown HB.out hsz q os
        clear HO HB HC2
        go_roundg (s.length - (i + 1))
        case measure => omega
        case rel =>
          refine ⟨i + 1, ao', n', c', rfl, by go_num, by omega, Nat.le_refl _, ?_, HB2⟩
          rw [HF.out]
          exact HO2
      · rw [decide_eq_false he] at HC
        have HC2 : Hid _ := HC
        have HF : Hid (((s.take (i + 1)).filter fun x => !decide (x ∈ b)) = ((s.take i).filter fun x => !decide (x ∈ b)) ++ [x]) := by rw [T.out, List.filter_append]; simp [Hid, he]
        clear HC he
        go_wp2_with fail
        refine Calls.mono HC2.out ?_
        rintro e w2 ⟨rfl, q, os, rfl⟩
        have HO2 : Aside (OwnP w1.heap.size (grow (wr.drewN q) os) (.slice ao' n' c') ((s.take i).filter fun x => !decide (x ∈ b))) := ownsRow_grown HO.out q os
        have HB2 : Hid (Below w1.heap.size w1 (grow (wr.drewN q) os)) := below_grown HB.out hsz q os
        have x3 : (grow (wr.drewN q) os).cell? ⟨bk, off + i * 2, none⟩ = some (.int .i64 x.1) := cell_grown (by simp; omega) x1 q os
        have x4 : (grow (wr.drewN q) os).cell? ⟨bk, off + i * 2 + 1, none⟩ = some (.int .i64 x.2) := cell_grown (by simp; omega) x2 q os
        clear HO HB HC2 x1 x2
        generalize grow (wr.drewN q) os = w2 at HO2 HB2 x3 x4 ⊢
        have hs2 : w1.heap.size ≤ w2.heap.size := HB2.out.size
        go_wp2_with (at_builtin; refine app_pair rfl _ _ rfl w1.heap.size _ _ rfl (HO2.out.alloc _) w2.heap.size 0 1 rfl x (by simp) (by simp) (by omega) (by simp; omega) ?_)
        intro ao2 n2 c2 w3 HO3 HB3
        have HO4 : Aside (OwnP w1.heap.size w3 (.slice ao2 n2 c2) (((s.take i).filter fun x => !decide (x ∈ b)) ++ [x])) := HO3
        have HB4 : Hid (Below w1.heap.size w1 w3) := HB3 _ (HB2.out.alloc hs2 _)
        clear HO3 HB3
        go_wp2
        go_roundg (s.length - (i + 1))
        case measure => omega
        case rel =>
          refine ⟨i + 1, ao2, n2, c2, rfl, by go_num, by omega, Nat.le_refl _, ?_, HB4⟩
          rw [HF.out]
          exact HO4
    · have hilz : ¬ (i : Int) < (s.length : Int) := by omega
      obtain rfl : i = s.length := by omega
      rw [List.take_length] at HO
      go_wp2
      go_ret
      refine ⟨_, rfl, _, Own.mono HO.out.own (by omega), ⟨List.Pairwise.filter _ HSS.out, fun x => ?_⟩, ?_, B1.out.trans (HB.out.mono hs1)⟩
      · rw [List.mem_filter, HSM.out x]; simp
      · exact Nat.le_trans (List.length_filter_le _ _) SP3

set_option maxHeartbeats 4000000 in
set_option maxRecDepth 100000 in
theorem rapply_any (va vc : Value) (l : List Pr) (c : List Ch) (w : World) (ha : Row encP 2 w va l) (hc : Row encC 3 w vc c) (hl : l.length + c.length ≤ 40000) :
    Calls Try.prog 27 #[va, vc] w fun e w' => ∃ v' r, e = .returned v' ∧ Own encP 2 w.heap.size w' v' r ∧ applyOf l c r ∧ r.length ≤ l.length + c.length ∧ Below w.heap.size w w' := by
  have HS : Hid _ := rsort_any va l w ha (by omega)
  obtain ⟨aoa, ca, rfl, _⟩ := id ha
  obtain ⟨ao, cap, rfl, h1, h2, h3⟩ := hc
  have H3 : Aside (c ≠ [] → ∃ b off, ao = some ⟨b, off, none⟩ ∧ b < w.heap.size ∧ CellsK encC 3 w b off c) := h3
  clear ha h3
  have SP3 := (sortL_spec l).2.2
  have HA : Hid (applyOf l c (applyL (sortL l) c)) := applyL_of l c
  have HLn : Hid (∀ i, (applyL (sortL l) (c.take i)).length ≤ (sortL l).length + (c.take i).length) := fun i => (applyL_spec (c.take i) (sortL l) (sortL_spec l).1).2.2
  go_enter Try.func27, Try.ntmps27
  go_wp2_with fail
  refine Calls.mono HS.out ?_
  rintro e w1 ⟨v1, rfl, o1, b1⟩
  have O1 : Aside (Own encP 2 w.heap.size w1 v1 (sortL l)) := o1
  have B1 : Hid (Below w.heap.size w w1) := b1
  obtain ⟨y0, z0, rfl, _⟩ := id o1
  clear HS b1 o1
  generalize sortL l = s at *
  go_wp2
  go_loopg [5, 6] c.length (fun kx s5 s6 wr => ∃ (i : Nat) (ao' : Option Addr) (n' c' : Nat), s5 = .slice ao' n' c' ∧ s6 = .int .i64 i ∧ i ≤ c.length ∧ c.length - i ≤ kx ∧ Aside (Own encP 2 w.heap.size wr (.slice ao' n' c') (applyL s (c.take i))) ∧ Hid (Below w.heap.size w wr))
  case atStart => exact ⟨0, _, _, _, rfl, rfl, Nat.zero_le _, Nat.le_refl _, O1, B1⟩
  case round =>
    clear O1 B1
    obtain ⟨i, ao', n', c', rfl, rfl, hi, hki, HO, HB⟩ := hrel
    have hsz : w.heap.size ≤ wr.heap.size := HB.out.size
    by_cases hil : i < c.length
    · have hilz : (i : Int) < (c.length : Int) := by omega
      obtain ⟨bk, off, rfl, hbk, x1, x2, x3⟩ := rowC_at H3.out i hil HB.out
      have hlen : (applyL s (c.take i)).length ≤ 40000 := Nat.le_trans (HLn.out i) (by simp; omega)
      have T : Hid (applyL s (c.take (i + 1)) = if c[i]!.2 = true then putL (applyL s (c.take i)) c[i]!.1 else withoutL (applyL s (c.take i)) c[i]!.1) := by rw [take_next hil]; simp [Hid, applyL, List.foldl_append]
      generalize c[i]! = x at *
      obtain ⟨x, f⟩ := x
      simp only at x1 x2 x3
      cases f with
      | true =>
        have T2 : Hid (applyL s (c.take (i + 1)) = putL (applyL s (c.take i)) x) := by have := T.out; rw [if_pos rfl] at this; exact this
        have HC : Hid _ := rput_any _ (applyL s (c.take i)) x wr HO.out.row (by omega)
        clear HO T
        go_wp2_with (go_at_call 40; refine Calls.mono HC.out ?_; rintro e w1 ⟨v1, rfl, o1, b1⟩)
        have O1 : Aside (Own encP 2 w.heap.size w1 v1 (putL (applyL s (c.take i)) x)) := Own.mono o1 hsz
        have B1 : Hid (Below w.heap.size w w1) := HB.out.trans (b1.mono hsz)
        obtain ⟨y1, z1, rfl, _⟩ := id o1
        clear o1 b1 HC
        go_wp2
        go_roundg (c.length - (i + 1))
        case measure => omega
        case rel =>
          refine ⟨i + 1, _, _, _, rfl, by go_num, by omega, Nat.le_refl _, ?_, B1⟩
          rw [T2.out]
          exact O1
      | false =>
        have T2 : Hid (applyL s (c.take (i + 1)) = withoutL (applyL s (c.take i)) x) := by have := T.out; rw [if_neg (by simp)] at this; exact this
        have HC : Hid _ := without_any _ (applyL s (c.take i)) x wr HO.out.row (by omega)
        clear HO T
        go_wp2_with (go_at_call 47; refine Calls.mono HC.out ?_; rintro e w1 ⟨v1, rfl, o1, b1⟩)
        have O1 : Aside (Own encP 2 w.heap.size w1 v1 (withoutL (applyL s (c.take i)) x)) := Own.mono o1 hsz
        have B1 : Hid (Below w.heap.size w w1) := HB.out.trans (b1.mono hsz)
        obtain ⟨y1, z1, rfl, _⟩ := id o1
        clear o1 b1 HC
        go_wp2
        go_roundg (c.length - (i + 1))
        case measure => omega
        case rel =>
          refine ⟨i + 1, _, _, _, rfl, by go_num, by omega, Nat.le_refl _, ?_, B1⟩
          rw [T2.out]
          exact O1
    · have hilz : ¬ (i : Int) < (c.length : Int) := by omega
      obtain rfl : i = c.length := by omega
      have HL2 := HLn.out c.length
      rw [List.take_length] at HO HL2
      go_wp2
      go_ret
      exact ⟨_, rfl, _, HO.out, HA.out, by omega, HB.out⟩

end Go.Proofs.Ytifeeneojlhffaa

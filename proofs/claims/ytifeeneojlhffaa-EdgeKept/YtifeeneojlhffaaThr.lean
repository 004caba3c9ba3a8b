/-
  The walk of edge.through at pairs: two rows gone through at once; what is told is 'ev'.
-/
import Derived.Test.YtifeeneojlhffaaSort
namespace Go.Proofs.Ytifeeneojlhffaa
open Go.Shelf Go.RowKit Go.Lib Go.Sort

abbrev Ev := Pr × Bool × Bool

/-- A row that does not lie in block 'lo'. -/
def RowL (lo : Nat) (w : World) (v : Value) (l : List Pr) : Prop :=
  ∃ ao cap, v = .slice ao l.length cap ∧ l.length ≤ cap ∧ (ao = none → cap = 0) ∧ (l ≠ [] → ∃ b off, ao = some ⟨b, off, none⟩ ∧ b ≠ lo ∧ b < w.heap.size ∧ CellsK encP 2 w b off l)
/-- But for block 'lo' what was there is as it was. -/
def Kept (lo : Nat) (w W : World) : Prop := w.heap.size ≤ W.heap.size ∧ ∀ p : Addr, p.block ≠ lo → p.block < w.heap.size → W.cell? p = w.cell? p

theorem rowL_of_own {base bb : Nat} {w : World} {v : Value} {l : List Pr} (h : Own encP 2 base w v l) (hb : bb < base) : RowL bb w v l := by
  obtain ⟨ao, cap, e, h1, h2, h3⟩ := h
  refine ⟨ao, cap, e, h1, h2, fun hne => ?_⟩
  obtain ⟨b, off, e2, hl, hb', hH⟩ := h3 hne
  exact ⟨b, off, e2, by omega, hb', cells_of_holds hH⟩
theorem rowL_of_row {w : World} {v : Value} {l : List Pr} (h : Row encP 2 w v l) (o : Obj) : RowL w.heap.size (w.alloc o) v l := by
  obtain ⟨ao, cap, e, h1, h2, h3⟩ := h
  refine ⟨ao, cap, e, h1, h2, fun hne => ?_⟩
  obtain ⟨b, off, e2, hlt, hH⟩ := h3 hne
  exact ⟨b, off, e2, by omega, by simp; omega, fun t ht => Lib.cell?_alloc_some _ (hH t ht)⟩
theorem RowL.below {lo : Nat} {w W : World} {v : Value} {l : List Pr} (h : RowL lo w v l) (hb : Below w.heap.size w W) : RowL lo W v l := by
  obtain ⟨ao, cap, e, h1, h2, h3⟩ := h
  refine ⟨ao, cap, e, h1, h2, fun hne => ?_⟩
  obtain ⟨b, off, e2, hl, hlt, hH⟩ := h3 hne
  exact ⟨b, off, e2, hl, Nat.lt_of_lt_of_le hlt hb.size, fun t ht => (hb.cell (p := ⟨b, off + t, none⟩) hlt).trans (hH t ht)⟩

/-- A row's head. -/
theorem row_cons {lo : Nat} {w : World} {v : Value} {x : Pr} {l : List Pr} (h : RowL lo w v (x :: l)) :
    ∃ b off cap, v = .slice (some ⟨b, off, none⟩) (l.length + 1) cap ∧ l.length + 1 ≤ cap ∧ b ≠ lo ∧ b < w.heap.size ∧ w.cell? ⟨b, off, none⟩ = some (.int .i64 x.1) ∧ w.cell? ⟨b, off + 1, none⟩ = some (.int .i64 x.2) ∧
      ∀ ao, (l ≠ [] → ao = some ⟨b, off + 2, none⟩) → (ao = none → cap - 1 = 0) → RowL lo w (.slice ao l.length (cap - 1)) l := by
  obtain ⟨ao, cap, rfl, h1, h2, h3⟩ := h
  obtain ⟨b, off, rfl, hlo, hb, hc⟩ := h3 (by simp)
  have hlen : (x :: l).length = l.length + 1 := rfl
  have c0 := hc 0 (by rw [hlen]; omega)
  have c1 := hc 1 (by rw [hlen]; omega)
  rw [get_flatK _ _ _ _ (by simp)] at c0
  rw [get_flatK _ _ _ _ (by simp; omega)] at c1
  refine ⟨b, off, cap, rfl, h1, hlo, hb, by simpa [encP] using c0, by simpa [encP] using c1, fun ao ha hn => ⟨ao, cap - 1, rfl, by rw [hlen] at h1; omega, hn, fun hne => ⟨b, off + 2, ha hne, hlo, hb, fun t ht => ?_⟩⟩⟩
  have ct := hc (t + 2) (by rw [hlen]; omega)
  rw [get_flatK _ _ _ _ (by simp; omega)] at ct
  rw [get_flatK _ _ _ _ (by simpa using ht), show off + 2 + t = off + (t + 2) by omega, ct]
  have e1 : (t + 2) / 2 = t / 2 + 1 := by omega
  have e2 : (t + 2) % 2 = t % 2 := by omega
  rw [e1, e2]
  congr 3
  have ht2 : t / 2 < l.length := by omega
  rw [getElem!_pos _ _ (by simp; omega), getElem!_pos _ _ (by simpa using ht2)]
  simp

set_option maxHeartbeats 8000000 in
set_option maxRecDepth 100000 in
theorem through_any (lo : Nat) (va vb : Value) (a b : List Pr) (g : Nat) (cb : Array Value) (w : World) (I : List Ev → World → Prop)
    (eg : ∀ args w, (callFunc g args).run Try.prog w = .ok (.enter g args) w)
    (hT : ∀ (pre : List Ev) (x : Pr) (i j : Bool) (W : World), I pre W → pre.length < 4000 → Calls Try.prog g (#[.agg #[.int .i64 x.1, .int .i64 x.2], .bool i, .bool j] ++ cb) W fun e W' => e = .returned (.tuple #[]) ∧ I (pre ++ [(x, i, j)]) W')
    (hG : ∀ pre W n os, I pre W → I pre (grow (W.drewN n) os)) (hW : ∀ pre W, I pre W → Kept lo w W)
    (h0 : I [] w) (ha : RowL lo w va a) (hb : RowL lo w vb b) (hl : a.length + b.length ≤ 2000) :
    Calls Try.prog 43 #[va, vb, .func (.func 16) #[] #[], .func (.func g) #[] cb] w fun e W' => e = .returned (.tuple #[]) ∧ I (ev a b) W' := by
  obtain ⟨aoa, ca, rfl, _, _, _⟩ := id ha
  obtain ⟨aob, cbp, rfl, _, _, _⟩ := id hb
  have RA : Aside _ := ha
  have RB : Aside _ := hb
  have HT : Aside _ := hT
  have HG : Aside _ := hG
  have HW : Aside _ := hW
  have H0 : Aside (I [] w) := h0
  have eC : ∀ args w, (callFunc 16 args).run Try.prog w = .ok (.enter 16 args) w := enters_of Try.func16 (by kernel_rfl) rfl
  have mixed : Try.prog.follows .mixedOrders = true := by kernel_rfl
  have HA : Aside (∀ pre W o, I pre W → I pre (W.alloc o)) := fun pre W o h => by have := hG pre W 0 #[o] h; rw [alloc_eq_grow]; exact this
  clear ha hb hT hG hW h0
  go_enter Try.func43, Try.ntmps43
  go_wp2
  go_loopg [0, 1] (a.length + b.length) (fun kx s0 s1 wr => ∃ (a' b' : List Pr) (pre : List Ev), Aside (RowL lo w s0 a') ∧ Aside (RowL lo w s1 b') ∧ a'.length + b'.length ≤ kx ∧ a'.length + b'.length ≤ 2000 ∧ pre.length + a'.length + b'.length ≤ 2000 ∧ Aside (I pre wr) ∧ Hid (pre ++ ev a' b' = ev a b))
  case atStart => exact ⟨a, b, [], RA, RB, Nat.le_refl _, hl, by simpa using hl, H0, rfl⟩
  case round =>
    clear RA RB H0
    obtain ⟨a', b', pre, RA, RB, hkx, hab, hpre, HI, HE⟩ := hrel
    by_cases hfin : a' = [] ∨ b' = []
    · have HF : Hid (a' = [] ∨ b' = []) := hfin
      have HEV : Hid (ev a' b' = (a'.map fun x => (x, true, false)) ++ (b'.map fun x => (x, false, true))) := by
        show _ = _
        rcases hfin with rfl | rfl
        · rw [ev_nil_left]; rfl
        · rw [ev_nil_right]; simp
      obtain ⟨ao, cA, rfl, hA1, hA2, hA3⟩ := RA.out
      obtain ⟨bo, cB, rfl, hB1, hB2, hB3⟩ := RB.out
      have QA : Aside _ := hA3
      have QB : Aside _ := hB3
      have hz : ¬ (0 < (a'.length : Int) ∧ 0 < (b'.length : Int)) := by
        rcases hfin with rfl | rfl <;> simp
      clear hfin hA3 hB3 RA RB
      by_cases hz1 : 0 < (a'.length : Int)
      · have hz2 : ¬ 0 < (b'.length : Int) := fun h => hz ⟨hz1, h⟩
        clear hz
        go_wp2
        go_loopg [60] a'.length (fun kx s60 wr => ∃ (i : Nat), s60 = .int .i64 i ∧ i ≤ a'.length ∧ a'.length - i ≤ kx ∧ Aside (I (pre ++ (a'.take i).map fun x => ((x, true, false) : Ev)) wr))
        case atStart => exact ⟨0, rfl, Nat.zero_le _, Nat.le_refl _, by simpa using HI⟩
        case round =>
          clear HI
          obtain ⟨i, rfl, hi, hki, HI⟩ := hrel
          by_cases hil : i < a'.length
          · have hilz : (i : Int) < (a'.length : Int) := by omega
            obtain ⟨b, off, rfl, hlo, hb, hc⟩ := QA.out (by intro h; rw [h] at hil; simp at hil)
            have B1 : Aside (Kept lo w wr) := HW.out _ _ HI.out
            obtain ⟨x, hx⟩ : ∃ x, a'[i]! = x := ⟨_, rfl⟩
            have x1 : wr.cell? ⟨b, off + i * 2, none⟩ = some (.int .i64 x.1) := by
              rw [B1.out.2 ⟨b, off + i * 2, none⟩ hlo hb, hc (i * 2) (by omega), get_flatK _ _ _ _ (by simp; omega), show i * 2 / 2 = i by omega, show i * 2 % 2 = 0 by omega, ← hx]
              simp [encP]
            have x2 : wr.cell? ⟨b, off + i * 2 + 1, none⟩ = some (.int .i64 x.2) := by
              rw [Nat.add_assoc, B1.out.2 ⟨b, off + (i * 2 + 1), none⟩ hlo hb, hc (i * 2 + 1) (by omega), get_flatK _ _ _ _ (by simp; omega), show (i * 2 + 1) / 2 = i by omega, show (i * 2 + 1) % 2 = 1 by omega, ← hx]
              simp [encP]
            have HX : Hid (a'[i]! = x) := hx
            have C := HT.out _ x true false (wr.alloc (.cells #[.int .i64 x.1, .int .i64 x.2] 25)) (HA.out _ _ _ HI.out) (by simp; omega)
            clear hx hc HI B1
            go_wp2_with (go_at_fn g; refine C.mono ?_; rintro e w3 ⟨rfl, HI3⟩)
            have I3 : Aside _ := HI3
            clear C HI3
            go_roundg (a'.length - (i + 1))
            case measure => omega
            case rel =>
              refine ⟨i + 1, by go_num, by omega, Nat.le_refl _, ?_⟩
              have e : a'.take (i + 1) = a'.take i ++ [x] := by
                rw [List.take_add_one, List.getElem?_eq_getElem hil, ← HX.out, getElem!_pos a' i hil]; rfl
              show I _ _
              rw [e, List.map_append, ← List.append_assoc]
              exact I3.out
          · have hilz : ¬ (i : Int) < (a'.length : Int) := by omega
            obtain rfl : i = a'.length := by omega
            have I3 : Aside _ := HI
            clear HI
            rw [List.take_length] at I3
            go_wp2
            have HI : Aside _ := I3
            clear I3
            go_loopg [70] b'.length (fun kx s60 wr => ∃ (i : Nat), s60 = .int .i64 i ∧ i ≤ b'.length ∧ b'.length - i ≤ kx ∧ Aside (I ((pre ++ a'.map fun x => ((x, true, false) : Ev)) ++ (b'.take i).map fun x => ((x, false, true) : Ev)) wr))
            case atStart => exact ⟨0, rfl, Nat.zero_le _, Nat.le_refl _, by simpa using HI⟩
            case round =>
              clear HI
              obtain ⟨i, rfl, hi, hki, HI⟩ := hrel
              by_cases hil : i < b'.length
              · have hilz : (i : Int) < (b'.length : Int) := by omega
                exfalso; omega
              · have hilz : ¬ (i : Int) < (b'.length : Int) := by omega
                obtain rfl : i = b'.length := by omega
                have I3 : Aside _ := HI
                clear HI
                rw [List.take_length] at I3
                go_wp2
                go_end0
                refine ⟨rfl, ?_⟩
                have hi3 := I3.out
                rw [List.append_assoc, ← HEV.out, HE.out] at hi3
                exact hi3
      · clear hz
        go_wp2
        go_loopg [60] a'.length (fun kx s60 wr => ∃ (i : Nat), s60 = .int .i64 i ∧ i ≤ a'.length ∧ a'.length - i ≤ kx ∧ Aside (I (pre ++ (a'.take i).map fun x => ((x, true, false) : Ev)) wr))
        case atStart => exact ⟨0, rfl, Nat.zero_le _, Nat.le_refl _, by simpa using HI⟩
        case round =>
          clear HI
          obtain ⟨i, rfl, hi, hki, HI⟩ := hrel
          by_cases hil : i < a'.length
          · have hilz : (i : Int) < (a'.length : Int) := by omega
            exfalso; omega
          · have hilz : ¬ (i : Int) < (a'.length : Int) := by omega
            obtain rfl : i = a'.length := by omega
            have I3 : Aside _ := HI
            clear HI
            rw [List.take_length] at I3
            go_wp2
            have HI : Aside _ := I3
            clear I3
            go_loopg [70] b'.length (fun kx s60 wr => ∃ (i : Nat), s60 = .int .i64 i ∧ i ≤ b'.length ∧ b'.length - i ≤ kx ∧ Aside (I ((pre ++ a'.map fun x => ((x, true, false) : Ev)) ++ (b'.take i).map fun x => ((x, false, true) : Ev)) wr))
            case atStart => exact ⟨0, rfl, Nat.zero_le _, Nat.le_refl _, by simpa using HI⟩
            case round =>
              clear HI
              obtain ⟨i, rfl, hi, hki, HI⟩ := hrel
              by_cases hil : i < b'.length
              · have hilz : (i : Int) < (b'.length : Int) := by omega
                obtain ⟨b, off, rfl, hlo, hb, hc⟩ := QB.out (by intro h; rw [h] at hil; simp at hil)
                have B1 : Aside (Kept lo w wr) := HW.out _ _ HI.out
                obtain ⟨x, hx⟩ : ∃ x, b'[i]! = x := ⟨_, rfl⟩
                have x1 : wr.cell? ⟨b, off + i * 2, none⟩ = some (.int .i64 x.1) := by
                  rw [B1.out.2 ⟨b, off + i * 2, none⟩ hlo hb, hc (i * 2) (by omega), get_flatK _ _ _ _ (by simp; omega), show i * 2 / 2 = i by omega, show i * 2 % 2 = 0 by omega, ← hx]
                  simp [encP]
                have x2 : wr.cell? ⟨b, off + i * 2 + 1, none⟩ = some (.int .i64 x.2) := by
                  rw [Nat.add_assoc, B1.out.2 ⟨b, off + (i * 2 + 1), none⟩ hlo hb, hc (i * 2 + 1) (by omega), get_flatK _ _ _ _ (by simp; omega), show (i * 2 + 1) / 2 = i by omega, show (i * 2 + 1) % 2 = 1 by omega, ← hx]
                  simp [encP]
                have HX : Hid (b'[i]! = x) := hx
                have C := HT.out _ x false true (wr.alloc (.cells #[.int .i64 x.1, .int .i64 x.2] 25)) (HA.out _ _ _ HI.out) (by simp; omega)
                clear hx hc HI B1
                go_wp2_with (go_at_fn g; refine C.mono ?_; rintro e w3 ⟨rfl, HI3⟩)
                have I3 : Aside _ := HI3
                clear C HI3
                go_roundg (b'.length - (i + 1))
                case measure => omega
                case rel =>
                  refine ⟨i + 1, by go_num, by omega, Nat.le_refl _, ?_⟩
                  have e : b'.take (i + 1) = b'.take i ++ [x] := by
                    rw [List.take_add_one, List.getElem?_eq_getElem hil, ← HX.out, getElem!_pos b' i hil]; rfl
                  show I _ _
                  rw [e, List.map_append, ← List.append_assoc]
                  exact I3.out
              · have hilz : ¬ (i : Int) < (b'.length : Int) := by omega
                obtain rfl : i = b'.length := by omega
                have I3 : Aside _ := HI
                clear HI
                rw [List.take_length] at I3
                go_wp2
                go_end0
                refine ⟨rfl, ?_⟩
                have hi3 := I3.out
                rw [List.append_assoc, ← HEV.out, HE.out] at hi3
                exact hi3
    obtain ⟨x, a', rfl⟩ : ∃ x l, a' = x :: l := by cases a' with
      | nil => exact absurd (Or.inl rfl) hfin
      | cons x l => exact ⟨x, l, rfl⟩
    obtain ⟨y, b', rfl⟩ : ∃ x l, b' = x :: l := by cases b' with
      | nil => exact absurd (Or.inr rfl) hfin
      | cons x l => exact ⟨x, l, rfl⟩
    clear hfin
    simp only [List.length_cons] at hkx hab hpre
    obtain ⟨ba, oa, ca', rfl, hca, hla, hba, xa1, xa2, RA'⟩ := row_cons RA.out
    obtain ⟨bb, ob, cb', rfl, hcb, hlb, hbb, yb1, yb2, RB'⟩ := row_cons RB.out
    have QA : Aside _ := RA'
    have QB : Aside _ := RB'
    have B1 : Aside (Kept lo w wr) := HW.out _ _ HI.out
    have hsz : w.heap.size ≤ wr.heap.size := B1.out.1
    have X1 : ∀ n os, (grow (wr.drewN n) os).cell? ⟨ba, oa, none⟩ = some (.int .i64 x.1) := cell_grown (by simp; omega) (by rw [B1.out.2 _ hla hba]; exact xa1)
    have X2 : ∀ n os, (grow (wr.drewN n) os).cell? ⟨ba, oa + 1, none⟩ = some (.int .i64 x.2) := cell_grown (by simp; omega) (by rw [B1.out.2 _ hla hba]; exact xa2)
    have Y1 : ∀ n os, (grow (wr.drewN n) os).cell? ⟨bb, ob, none⟩ = some (.int .i64 y.1) := cell_grown (by simp; omega) (by rw [B1.out.2 _ hlb hbb]; exact yb1)
    have Y2 : ∀ n os, (grow (wr.drewN n) os).cell? ⟨bb, ob + 1, none⟩ = some (.int .i64 y.2) := cell_grown (by simp; omega) (by rw [B1.out.2 _ hlb hbb]; exact yb2)
    have hcg : ∀ n os, Calls Try.prog 16 (#[.agg #[.int .i64 x.1, .int .i64 x.2], .agg #[.int .i64 y.1, .int .i64 y.2]] ++ #[]) (grow (wr.drewN n) os) fun e w' => e = .returned (.int .i64 (cfP x y)) ∧ ∃ q os', w' = grow ((grow (wr.drewN n) os).drewN q) os' := fun n os => by simpa [encP] using cmp_any x y (grow (wr.drewN n) os)
    clear RA' RB' xa1 xa2 yb1 yb2
    rcases cfP_cases x y with ⟨hlt, hcf⟩ | ⟨heq, hcf⟩ | ⟨hgt, hcf⟩
    · rw [hcf] at hcg
      go_wp2_with fail
      go_quiet_grown (first | (go_at_fn 16; refine Calls.grown_of (hcg _ _)))
      have HI2 : Aside (I pre (grow (wr.drewN nq) osq)) := HG.out _ _ _ _ HI.out
      have X3 := X1 nq osq
      have X4 := X2 nq osq
      clear X1 X2 Y1 Y2 hcg HI B1
      generalize grow (wr.drewN nq) osq = w2 at HI2 X3 X4 ⊢
      have C := HT.out pre x true false w2 HI2.out (by omega)
      go_wp2_with (go_at_fn g; refine C.mono ?_; rintro e w3 ⟨rfl, HI3⟩)
      all_goals
        have I3 : Aside (I (pre ++ [(x, true, false)]) w3) := HI3
        clear C HI3
        go_roundg (a'.length + (b'.length + 1))
      case measure => omega
      case measure => omega
      case rel =>
        refine ⟨a', y :: b', pre ++ [(x, true, false)], ?_, RB, by simp only [List.length_cons]; omega, by simp only [List.length_cons]; omega, by simp only [List.length_append, List.length_cons, List.length_nil]; omega, I3, ?_⟩
        · have := QA.out (some ⟨ba, oa, none⟩) (fun hne => absurd (List.length_eq_zero_iff.1 (by omega)) hne) (fun h => by cases h)
          have hc1 : ca' = 1 := by omega
          rw [hc1] at this
          exact this
        · show _ = _
          rw [← HE.out, ev_lt _ _ hlt]; simp
      case rel =>
        refine ⟨a', y :: b', pre ++ [(x, true, false)], ?_, RB, by simp only [List.length_cons]; omega, by simp only [List.length_cons]; omega, by simp only [List.length_append, List.length_cons, List.length_nil]; omega, I3, ?_⟩
        · exact QA.out (some ⟨ba, oa + 2, none⟩) (fun _ => rfl) (fun h => by cases h)
        · show _ = _
          rw [← HE.out, ev_lt _ _ hlt]; simp
    · subst heq
      rw [hcf] at hcg
      go_wp2_with fail
      go_quiet_grown (first | (go_at_fn 16; refine Calls.grown_of (hcg _ _)))
      have HI2 : Aside (I pre (grow (wr.drewN nq) osq)) := HG.out _ _ _ _ HI.out
      have X3 := X1 nq osq
      have X4 := X2 nq osq
      clear X1 X2 Y1 Y2 hcg HI B1
      generalize grow (wr.drewN nq) osq = w2 at HI2 X3 X4 ⊢
      have C := HT.out pre x true true w2 HI2.out (by omega)
      go_wp2_with (go_at_fn g; refine C.mono ?_; rintro e w3 ⟨rfl, HI3⟩)
      have I3 : Aside (I (pre ++ [(x, true, true)]) w3) := HI3
      clear C HI3
      by_cases hA1 : ca' = 1 <;> by_cases hB1 : cb' = 1
      all_goals
        have I4 : Aside (I (pre ++ [(x, true, true)]) w3.drew) := by have := HG.out _ _ 1 #[] I3.out; rw [grow_empty] at this; exact this
        clear I3
        go_region
        all_goals go_wp2
        all_goals go_roundg (a'.length + b'.length)
        case measure => omega
      all_goals
        refine ⟨a', b', pre ++ [(x, true, true)], ?_, ?_, Nat.le_refl _, by omega, by simp only [List.length_append, List.length_cons, List.length_nil]; omega, I4, ?_⟩
        · first
            | exact QA.out (some ⟨ba, oa + 2, none⟩) (fun _ => rfl) (fun h => by cases h)
            | (have := QA.out (some ⟨ba, oa, none⟩) (fun hne => absurd (List.length_eq_zero_iff.1 (by omega)) hne) (fun h => by cases h)
               rw [hA1] at this
               exact this)
        · first
            | exact QB.out (some ⟨bb, ob + 2, none⟩) (fun _ => rfl) (fun h => by cases h)
            | (have := QB.out (some ⟨bb, ob, none⟩) (fun hne => absurd (List.length_eq_zero_iff.1 (by omega)) hne) (fun h => by cases h)
               rw [hB1] at this
               exact this)
        · show _ = _
          rw [← HE.out, ev_eq x _ _]; simp
    · rw [hcf] at hcg
      go_wp2_with fail
      go_quiet_grown (first | (go_at_fn 16; refine Calls.grown_of (hcg _ _)))
      have HI2 : Aside (I pre (grow (wr.drewN nq) osq)) := HG.out _ _ _ _ HI.out
      have X3 := Y1 nq osq
      have X4 := Y2 nq osq
      clear X1 X2 Y1 Y2 hcg HI B1
      generalize grow (wr.drewN nq) osq = w2 at HI2 X3 X4 ⊢
      have C := HT.out pre y false true w2 HI2.out (by omega)
      go_wp2_with (go_at_fn g; refine C.mono ?_; rintro e w3 ⟨rfl, HI3⟩)
      all_goals
        have I3 : Aside (I (pre ++ [(y, false, true)]) w3) := HI3
        clear C HI3
        go_roundg (a'.length + 1 + b'.length)
      case measure => omega
      case measure => omega
      case rel =>
        refine ⟨x :: a', b', pre ++ [(y, false, true)], RA, ?_, by simp only [List.length_cons]; omega, by simp only [List.length_cons]; omega, by simp only [List.length_append, List.length_cons, List.length_nil]; omega, I3, ?_⟩
        · have := QB.out (some ⟨bb, ob, none⟩) (fun hne => absurd (List.length_eq_zero_iff.1 (by omega)) hne) (fun h => by cases h)
          have hc1 : cb' = 1 := by omega
          rw [hc1] at this
          exact this
        · show _ = _
          rw [← HE.out, ev_gt _ _ hgt]; simp
      case rel =>
        refine ⟨x :: a', b', pre ++ [(y, false, true)], RA, ?_, by simp only [List.length_cons]; omega, by simp only [List.length_cons]; omega, by simp only [List.length_append, List.length_cons, List.length_nil]; omega, I3, ?_⟩
        · exact QB.out (some ⟨bb, ob + 2, none⟩) (fun _ => rfl) (fun h => by cases h)
        · show _ = _
          rw [← HE.out, ev_gt _ _ hgt]; simp

end Go.Proofs.Ytifeeneojlhffaa

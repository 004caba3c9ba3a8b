/-
  The walk of Crash.
-/
import Derived.Test.YtalljfckjkbieaaDoorSync
namespace Go.Proofs.YtalljfckjkbieaaDoor
open Go.RowKit
set_option linter.unusedVariables false
open Go.ChangeMaps (setBlock)

/-- A slice of numbers that can be read. -/
def IntRow (w : World) (v : Value) (l : List Int) : Prop :=
  ∃ ao cap, v = .slice ao l.length cap ∧ (l ≠ [] → ∃ r o, ao = some ⟨r, o, none⟩ ∧ r < w.heap.size ∧ ∀ j, j < l.length → w.cell? ⟨r, o + j, none⟩ = some (.int .i64 (l.getD j 0)))
theorem IntRow.below {w w' : World} {v : Value} {l : List Int} {B : Nat} (h : IntRow w v l) (hb : Below B w w') (hB : w.heap.size ≤ B) : IntRow w' v l := by
  obtain ⟨ao, cap, e, h1⟩ := h
  refine ⟨ao, cap, e, fun hne => ?_⟩
  obtain ⟨r, o, e2, hr, hc⟩ := h1 hne
  exact ⟨r, o, e2, Nat.lt_of_lt_of_le hr hb.size, fun j hj => (World.cell?_of_block (a := ⟨r, o + j, none⟩) (hb.block r (by omega))).trans (hc j hj)⟩

def keptTo (keep : List Int) (n t : Nat) : List Value := (List.range n).map fun (j : Nat) => .bool ((keep.take t).contains (j : Int))
theorem keptTo_length (keep : List Int) (n t : Nat) : (keptTo keep n t).length = n := by simp [keptTo]
theorem keptTo_get (keep : List Int) (n t : Nat) {j : Nat} (hj : j < n) : (keptTo keep n t)[j]? = some (.bool ((keep.take t).contains (j : Int))) := by simp [keptTo, hj]
theorem take_getD {keep : List Int} {t : Nat} (ht : t < keep.length) : keep.take (t + 1) = keep.take t ++ [keep.getD t 0] := by
  rw [List.take_add_one, List.getElem?_eq_getElem ht, List.getD_eq_getElem?_getD, List.getElem?_eq_getElem ht]; rfl
theorem keptTo_hit {keep : List Int} {n t : Nat} (ht : t < keep.length) {x : Nat} (hx : keep.getD t 0 = x) (_hn : x < n) : keptTo keep n (t + 1) = (keptTo keep n t).set x (.bool true) := by
  apply List.ext_getElem?
  intro j
  by_cases hj : j < n
  · rw [keptTo_get _ _ _ hj, List.getElem?_set, keptTo_length, take_getD ht, hx]
    by_cases e : x = j
    · subst e
      simp [hj]
    · rw [if_neg e, keptTo_get _ _ _ hj]
      have e2 : ¬ ((j : Int) = (x : Int)) := by omega
      simp [List.contains_eq_mem, e2]
  · rw [List.getElem?_eq_none (by rw [keptTo_length]; omega), List.getElem?_eq_none (by rw [List.length_set, keptTo_length]; omega)]
theorem keptTo_miss {keep : List Int} {n t : Nat} (ht : t < keep.length) (hx : ¬ (0 ≤ keep.getD t 0 ∧ keep.getD t 0 < n)) : keptTo keep n (t + 1) = keptTo keep n t := by
  apply List.ext_getElem?
  intro j
  by_cases hj : j < n
  · rw [keptTo_get _ _ _ hj, keptTo_get _ _ _ hj, take_getD ht]
    have e2 : ¬ ((j : Int) = keep.getD t 0) := by omega
    simp only [List.getD_eq_getElem?_getD] at e2
    simp [List.contains_eq_mem, e2]
  · rw [List.getElem?_eq_none (by rw [keptTo_length]; omega), List.getElem?_eq_none (by rw [keptTo_length]; omega)]

theorem infoBool : (Tryd.prog.info? 4).map (fun i => (i.zero, i.size, i.bytes)) = some (some (.bool false), 1, 1) := by kernel_rfl
theorem make_bools (w : World) (keep : List Int) (n : Nat) (hn : n < 1000000) : (Instr.makeSlice 77 (.int .i64 n) (.int .i64 n)).run Tryd.prog w = .ok (.slice (some ⟨w.heap.size, 0, none⟩) n n) (w.alloc (.cells (keptTo keep n 0).toArray 4)) := by
  obtain ⟨i0, hi, hz0, hz1, hz2⟩ := info_parts infoBool
  have h := run_make (P := Tryd.prog) w 77 4 i0 _ Tryd.underlying77 hi hz0 .i64 .i64 n n (by omega) (Int.le_refl _) (by rw [hz2]; omega) (by omega)
  rw [h]
  have e : madeCells (Value.bool false).cells ((n : Int).toNat * i0.size) = (keptTo keep n 0).toArray := by
    rw [hz1, Int.toNat_natCast, Nat.mul_one]
    apply Array.toList_inj.1
    rw [show (Value.bool false).cells = #[Value.bool false] from rfl, toList_madeCells_one]
    simp [keptTo, List.map_const']
  rw [e]
  simp

section
variable {w w' : World} {b m g : Nat} {pv : Value} {br : Bool} {lf : Int} {d : Dk}

set_option maxHeartbeats 4000000 in
set_option maxRecDepth 100000 in
theorem crash_m (h : Mem w b m g pv br lf d) (kv : Value) (keep : List Int) (hkv : IntRow w kv keep) (torn cut : Int) (hl : d.pend.length < 100000) (hkl : keep.length < 100000) :
    Calls Tryd.prog 21 #[ptr b, kv, .int .i64 torn, .int .i64 cut] w fun e w' => e = .returned (.tuple #[]) ∧ Turn (fun k => k = b ∨ k = m ∨ k = g) w w' ∧ MemD w' b m g (.slice none 0 0) (d.crash keep torn cut) := by
  have H : Hid (Mem w b m g pv br lf d) := h
  have c1 := h.c1
  have lt := h.bl
  obtain ⟨ao, c, epv⟩ := h.pv_slice
  rw [epv] at c1
  have EP : Hid (pv = .slice ao d.pend.length c) := epv
  obtain ⟨ak, ck, rfl, hk⟩ := hkv
  have HK : Aside (keep ≠ [] → ∃ r o, ak = some ⟨r, o, none⟩ ∧ r < w.heap.size ∧ ∀ j, j < keep.length → w.cell? ⟨r, o + j, none⟩ = some (.int .i64 (keep.getD j 0))) := hk
  have hmk := make_bools w keep d.pend.length (by omega)
  obtain ⟨w1, e1⟩ : ∃ w1, w1 = w.alloc (.cells (keptTo keep d.pend.length 0).toArray 4) := ⟨_, rfl⟩
  rw [← e1] at hmk
  have Q1 : Hid (w1.heap[w.heap.size]? = some (.cells (keptTo keep d.pend.length 0).toArray 4 (0, 0))) := by show _ = _; rw [e1]; exact heap_alloc_new w _
  have M1 : Hid (Mem w1 b m g pv br lf d) := by show Mem _ _ _ _ _ _ _ _; rw [e1]; exact h.alloc _
  have T1 : Hid (Turn (fun _ => False) w w1) := by show Turn _ _ _; rw [e1]; exact Turn.alloc _ _ _
  have S1 : w1.heap.size = w.heap.size + 1 := by rw [e1]; simp
  clear h epv e1 hk
  go_enter Tryd.func21, Tryd.ntmps21
  go_wp2
  go_loopg [23] keep.length (fun gk s23 wr => ∃ t : Nat, s23 = .int .i64 t ∧ t ≤ keep.length ∧ keep.length - t ≤ gk ∧ Aside (wr.heap[w.heap.size]? = some (.cells (keptTo keep d.pend.length t).toArray 4 (0, 0))) ∧ Hid (OnlyD w.heap.size w1 wr))
  case atStart => exact ⟨0, rfl, Nat.zero_le _, Nat.le_refl _, Q1.out, OnlyD.refl _ _⟩
  case round =>
    obtain ⟨t, rfl, ht, hgt, HQ, HO⟩ := hrel
    by_cases htl : t < keep.length
    · have htz : (t : Int) < (keep.length : Int) := by omega
      obtain ⟨r, o, rfl, hr, hc⟩ := HK.out (by intro e; rw [e] at htl; simp at htl)
      have x0 : wr.cell? ⟨r, o + t, none⟩ = some (.int .i64 (keep.getD t 0)) := ((World.cell?_of_block (a := ⟨r, o + t, none⟩) ((HO.out.block r (by omega)).trans (T1.out.block r hr (fun h => h)))).trans (hc t htl))
      by_cases hx : 0 ≤ keep.getD t 0 ∧ keep.getD t 0 < (d.pend.length : Nat)
      · obtain ⟨xn, hxn⟩ : ∃ xn : Nat, keep.getD t 0 = xn := ⟨(keep.getD t 0).toNat, by omega⟩
        have KH : Hid (keptTo keep d.pend.length (t + 1) = (keptTo keep d.pend.length t).set xn (.bool true)) := keptTo_hit htl hxn (by omega)
        rw [hxn] at x0 hx
        have hxl : xn < d.pend.length := by omega
        have hxz : (xn : Int) < (d.pend.length : Int) := by omega
        have q0 : wr.cell? ⟨w.heap.size, xn, none⟩ = some (.bool ((keep.take t).contains (xn : Int))) := by
          have := keptTo_get keep d.pend.length t hxl
          simp only [World.cell?, HQ.out]
          simpa using this
        have qf : wr.frozen? ⟨w.heap.size, xn, none⟩ = false := by simp [World.frozen?, HQ.out]
        have HX : Hid (keep.getD t 0 = xn) := hxn
        clear hxn hx hc
        go_wp2
        go_roundg (keep.length - (t + 1))
        case measure => omega
        case rel =>
          refine ⟨t + 1, by go_num, by omega, Nat.le_refl _, ?_, HO.out.trans (OnlyD.setCell _ _ _ _)⟩
          show _ = _
          rw [KH.out]
          simp [World.setCell, Array.getElem?_modify, HQ.out]
      · have KH : Hid (keptTo keep d.pend.length (t + 1) = keptTo keep d.pend.length t) := keptTo_miss htl hx
        have HX : Hid (¬ (0 ≤ keep.getD t 0 ∧ keep.getD t 0 < (d.pend.length : Nat))) := hx
        generalize keep.getD t 0 = x at *
        by_cases h0 : 0 ≤ x
        · have h1 : ¬ x < (d.pend.length : Int) := by omega
          clear hx hc
          go_wp2
          go_roundg (keep.length - (t + 1))
          case measure => omega
          case rel => exact ⟨t + 1, by go_num, by omega, Nat.le_refl _, by show _ = _; rw [KH.out]; exact HQ.out, HO⟩
        · clear hx hc
          go_wp2
          go_roundg (keep.length - (t + 1))
          case measure => omega
          case rel => exact ⟨t + 1, by go_num, by omega, Nat.le_refl _, by show _ = _; rw [KH.out]; exact HQ.out, HO⟩
    · have htz : ¬ (t : Int) < (keep.length : Int) := by omega
      obtain rfl : t = keep.length := by omega
      have hMq : Mem wr b m g pv br lf d := M1.out.kept (HO.out.block b (by omega)) (HO.out.block m (by have := H.out.map.lt; omega)) (HO.out.block g (by have := H.out.gl; omega)) (fun k hk => HO.out.block k (by have := (H.out.pk hk).1; omega))
      have MQ : Hid (Mem wr b m g pv br lf d) := hMq
      have TQ : Hid (Turn (fun k => k = g) w wr) := ⟨HO.out.os.trans T1.out.os, HO.out.tape.trans T1.out.tape, HO.out.output.trans T1.out.output, by rw [HO.out.size]; omega, fun k hk _ => (HO.out.block k (by omega)).trans (T1.out.block k hk (fun h => h))⟩
      have c1q := hMq.c1
      rw [EP.out] at c1q
      have ltq := hMq.bl
      have sq : w.heap.size < wr.heap.size := by rw [HO.out.size]; omega
      have KQ : Hid (∀ j, j < d.pend.length → (keptTo keep d.pend.length keep.length)[j]? = some (.bool (keep.contains (j : Int)))) := fun j hj => by
        have e := keptTo_get keep d.pend.length keep.length hj
        rw [List.take_length] at e
        exact e
      have HQ2 : Hid (wr.heap[w.heap.size]? = some (.cells (keptTo keep d.pend.length keep.length).toArray 4 (0, 0))) := HQ.out
      have NG : Hid (w.heap.size ≠ g) := by show _ ≠ _; have := H.out.gl; omega
      clear HO HQ hMq Q1 M1 T1 HK hmk S1 c1 htz
      rename_i wq _
      go_wp2
      go_loopg [44] d.pend.length (fun gk s44 wr => ∃ k : Nat, s44 = .int .i64 k ∧ k ≤ d.pend.length ∧ d.pend.length - k ≤ gk ∧ Aside (Mem wr b m g pv br lf (d.at (crashTo d.pend keep torn cut d.sure k))) ∧ Aside (wr.heap[w.heap.size]? = some (.cells (keptTo keep d.pend.length keep.length).toArray 4 (0, 0))) ∧ Hid (Turn (fun k => k = g) w wr))
      case atStart => exact ⟨0, rfl, Nat.zero_le _, Nat.le_refl _, MQ.out, HQ2.out, TQ.out⟩
      case round =>
        obtain ⟨k, rfl, hk, hgk, HM, HQ, HT⟩ := hrel
        have hM := HM.out
        by_cases hkl2 : k < d.pend.length
        · have hklz : (k : Int) < (d.pend.length : Int) := by omega
          obtain ⟨r, c', e1, x0, x1, hr⟩ := hM.pcells (k := k) hkl2
          obtain ⟨rfl, rfl⟩ : ao = some ⟨r, 0, none⟩ ∧ c = c' := by have e2 := EP.out.symm.trans e1; simp [Dk.at] at e2; exact e2
          have hw := wAt_ok H.out.ok hkl2
          have x0' : wr.cell? ⟨r, k * 2, none⟩ = some (.int .i64 (wAt d.pend k).1) := x0
          have x1' : wr.cell? ⟨r, k * 2 + 1, none⟩ = some (.string (wAt d.pend k).2) := x1
          have q0 : wr.cell? ⟨w.heap.size, k, none⟩ = some (.bool (keep.contains (k : Int))) := by
            have := KQ.out k hkl2
            simp only [World.cell?, HQ.out]
            simpa using this
          have sqr : w.heap.size < wr.heap.size := (Array.getElem?_eq_some_iff.1 HQ.out).1
          have SS : Hid (crashTo d.pend keep torn cut d.sure (k + 1) = crashStep d.pend keep torn cut (crashTo d.pend keep torn cut d.sure k) k) := crashTo_succ _ _ _ _ _ _
          unfold crashStep at SS
          generalize wAt d.pend k = p at *
          obtain ⟨pi, ps⟩ := p
          simp only at hw x0' x1' SS
          have hlen : (d.at (crashTo d.pend keep torn cut d.sure k)).sure.length = d.sure.length := crashTo_length _ _ _ _ _ _
          have hM2 := hM.alloc (.cells #[.int .i64 pi, .string ps] 79)
          have hpi : pi < (d.at (crashTo d.pend keep torn cut d.sure k)).sure.length := by rw [hlen]; exact hw.1
          have M2 : Hid (Mem (wr.alloc (.cells #[.int .i64 pi, .string ps] 79)) b m g pv br lf (d.at (crashTo d.pend keep torn cut d.sure k))) := hM2
          clear x0 x1 hM e1 hlen hM2
          cases hkp : keep.contains (k : Int) with
          | false =>
            rw [hkp] at q0 SS
            have SE : Hid (crashTo d.pend keep torn cut d.sure (k + 1) = crashTo d.pend keep torn cut d.sure k) := by show _ = _; rw [SS.out]; rfl
            clear SS hkp
            go_wp2
            go_roundg (d.pend.length - (k + 1))
            case measure => omega
            case rel => exact ⟨k + 1, by go_num, by omega, Nat.le_refl _, by show Mem _ _ _ _ _ _ _ _; rw [SE.out]; exact M2.out, (Below.heap_alloc _ _ _ sqr).trans HQ.out, HT.out.trans (Turn.alloc (fun k => k = g) _ _) (fun _ hk => .inl hk)⟩
          | true =>
            rw [hkp] at q0 SS
            obtain ⟨cN, hcN⟩ : ∃ cN : Nat, cN = (if (k : Int) = torn then clampN cut else 256) := ⟨_, rfl⟩
            have hcle : cN ≤ 256 := by rw [hcN]; split; exact clampN_le _; exact Nat.le_refl _
            have SM : Hid _ := settle_m M2.out pi hpi ps hw.2 cN hcle
            have SE : Hid (crashTo d.pend keep torn cut d.sure (k + 1) = (crashTo d.pend keep torn cut d.sure k).set pi (tear cN ps (sAt (crashTo d.pend keep torn cut d.sure k) pi))) := by show _ = _; rw [SS.out, hcN]; rfl
            have fin : ∀ w3, Turn (fun k => k = g) (wr.alloc (.cells #[.int .i64 pi, .string ps] 79)) w3 → Mem w3 b m g pv br lf { d.at (crashTo d.pend keep torn cut d.sure k) with sure := (d.at (crashTo d.pend keep torn cut d.sure k)).sure.set pi (tear cN ps (sAt (d.at (crashTo d.pend keep torn cut d.sure k)).sure pi)) } →
                Aside (Mem w3 b m g pv br lf (d.at (crashTo d.pend keep torn cut d.sure (k + 1)))) ∧ Aside (w3.heap[w.heap.size]? = some (.cells (keptTo keep d.pend.length keep.length).toArray 4 (0, 0))) ∧ Hid (Turn (fun k => k = g) w w3) := fun w3 t3 m3 =>
              ⟨by show Mem _ _ _ _ _ _ _ _; rw [SE.out]; exact m3, (t3.block _ (by simp; omega) NG.out).trans ((Below.heap_alloc _ _ _ sqr).trans HQ.out), (HT.out.trans (Turn.alloc (fun k => k = g) _ _) (fun _ hk => .inl hk)).trans t3 (fun _ hk => .inl hk)⟩
            have FIN : Hid (∀ w3, Turn (fun k => k = g) (wr.alloc (.cells #[.int .i64 pi, .string ps] 79)) w3 → Mem w3 b m g pv br lf { d.at (crashTo d.pend keep torn cut d.sure k) with sure := (d.at (crashTo d.pend keep torn cut d.sure k)).sure.set pi (tear cN ps (sAt (d.at (crashTo d.pend keep torn cut d.sure k)).sure pi)) } →
                Aside (Mem w3 b m g pv br lf (d.at (crashTo d.pend keep torn cut d.sure (k + 1)))) ∧ Aside (w3.heap[w.heap.size]? = some (.cells (keptTo keep d.pend.length keep.length).toArray 4 (0, 0))) ∧ Hid (Turn (fun k => k = g) w w3)) := fin
            clear SS hkp fin SE
            by_cases htn : (k : Int) = torn
            · subst htn
              rw [if_pos rfl] at hcN
              have hcc : cN = clampN cut := hcN
              by_cases hc0 : cut < 0
              · obtain rfl : cN = 0 := by rw [hcc]; unfold clampN; omega
                clear hcN hcc
                go_wp2_with fail
                refine Calls.mono SM.out ?_
                rintro e w3 ⟨rfl, t3, m3⟩
                obtain ⟨M3, Q3, T3⟩ := FIN.out w3 t3 m3
                clear t3 m3 SM FIN
                go_wp2
                go_roundg (d.pend.length - (k + 1))
                case measure => omega
                case rel => exact ⟨k + 1, by go_num, by omega, Nat.le_refl _, M3, Q3, T3⟩
              · by_cases hc1 : 256 < cut
                · obtain rfl : cN = 256 := by rw [hcc]; unfold clampN; omega
                  clear hcN hcc
                  go_wp2_with fail
                  refine Calls.mono SM.out ?_
                  rintro e w3 ⟨rfl, t3, m3⟩
                  obtain ⟨M3, Q3, T3⟩ := FIN.out w3 t3 m3
                  clear t3 m3 SM FIN
                  go_wp2
                  go_roundg (d.pend.length - (k + 1))
                  case measure => omega
                  case rel => exact ⟨k + 1, by go_num, by omega, Nat.le_refl _, M3, Q3, T3⟩
                · obtain rfl : cut = cN := by rw [hcc]; unfold clampN; omega
                  clear hcN hcc
                  go_wp2_with fail
                  refine Calls.mono SM.out ?_
                  rintro e w3 ⟨rfl, t3, m3⟩
                  obtain ⟨M3, Q3, T3⟩ := FIN.out w3 t3 m3
                  clear t3 m3 SM FIN
                  go_wp2
                  go_roundg (d.pend.length - (k + 1))
                  case measure => omega
                  case rel => exact ⟨k + 1, by go_num, by omega, Nat.le_refl _, M3, Q3, T3⟩
            · rw [if_neg htn] at hcN
              subst hcN
              have htb : ((k : Int) == torn) = false := beq_eq_false_iff_ne.2 htn
              go_wp2_with fail
              refine Calls.mono SM.out ?_
              rintro e w3 ⟨rfl, t3, m3⟩
              obtain ⟨M3, Q3, T3⟩ := FIN.out w3 t3 m3
              clear t3 m3 SM FIN
              go_wp2
              go_roundg (d.pend.length - (k + 1))
              case measure => omega
              case rel => exact ⟨k + 1, by go_num, by omega, Nat.le_refl _, M3, Q3, T3⟩
        · have hklz : ¬ (k : Int) < (d.pend.length : Int) := by omega
          obtain rfl : k = d.pend.length := by omega
          have SM : Hid _ := forget_m hM
          have lt2 := hM.bl
          have HS : Hid (d.crash keep torn cut = { { d.at (crashTo d.pend keep torn cut d.sure d.pend.length) with pend := [] }.stop (-1) with down := false }) := rfl
          clear hM
          go_wp2_with fail
          refine Calls.mono SM.out ?_
          rintro e w3 ⟨rfl, t3, br3, lf3, m3⟩
          have SB : Hid _ := break_m m3 (-1) (by omega)
          have T3 : Hid (Turn (fun k => k = b ∨ k = m ∨ k = g) w w3) := Turn.trans (X := fun k => k = b ∨ k = m ∨ k = g) ((Turn.refl _ w).trans HT.out (fun _ hk => .inl (.inr (.inr hk)))) t3 (fun _ hk => .inl (hk.elim .inl (fun e => .inr (.inl e))))
          have lt3 := m3.bl
          clear t3 m3 SM
          go_wp2_with fail
          refine Calls.mono SB.out ?_
          rintro e w4 ⟨rfl, o4, lf4, m4⟩
          have T4 : Hid (Turn (fun k => k = b ∨ k = m ∨ k = g) w w4) := T3.out.trans (o4.turn (X := fun k => k = b) rfl) (fun _ hk => .inl (.inl hk))
          have M4 : Hid _ := m4
          have c5 := m4.c5; have f5 := m4.fz 5; have lt4 := m4.bl
          clear o4 m4 SB
          go_wp2
          go_end0
          refine ⟨rfl, T4.out.trans (Turn.setCell (X := fun k => k = b) _ rfl _) (fun _ hk => .inl (.inl hk)), false, lf4, ?_⟩
          rw [HS.out]
          have h4 := M4.out
          refine h4.upd (OnlyD.setCell b 5 w4 _) rfl rfl (by simp [World.setCell, Array.getElem?_modify, h4.blk]) (fun _ => .inl ⟨rfl, rfl⟩) ⟨h4.ok.len, h4.ok.sz, h4.ok.pd, h4.ok.brk⟩

end
end Go.Proofs.YtalljfckjkbieaaDoor

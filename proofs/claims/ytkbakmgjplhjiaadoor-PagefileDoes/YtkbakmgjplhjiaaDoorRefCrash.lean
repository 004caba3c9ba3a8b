/-
  The reference's Crash.
-/
import Derived.Test.YtkbakmgjplhjiaaDoorRefNew
namespace Go.Proofs.YtkbakmgjplhjiaaDoor
open Go.RowKit
set_option linter.unusedVariables false
section
variable {w w' : World} {b : Nat} {sv wv : Value} {d : Dk}

set_option maxHeartbeats 8000000 in
set_option maxRecDepth 100000 in
theorem crash_r (h : RMem w b sv wv d) (kv : Value) (keep : List Int) (hkv : IntRow w kv keep) (torn cut : Int) (hl : d.pend.length < 100000) (hkl : keep.length < 100000) (hoff : keep ≠ [] → ∀ r o n c, kv = .slice (some ⟨r, o, none⟩) n c → r ≠ b ∧ sv.ownBlock ≠ some r) :
    Calls Tryd.prog 25 #[ptr b, kv, .int .i64 torn, .int .i64 cut] w fun e w' => e = .returned (.tuple #[]) ∧ Turn (fun k => k = b ∨ sv.ownBlock = some k) w w' ∧ RMem w' b sv (.slice none 0 0) (d.crash keep torn cut) := by
  have H : Hid (RMem w b sv wv d) := h
  have lt := h.bl
  obtain ⟨aw, cw, ew⟩ := h.wv_slice
  have EW : Hid (wv = .slice aw d.pend.length cw) := ew
  obtain ⟨ak, ck, rfl, hk⟩ := hkv
  have HK : Aside (keep ≠ [] → ∃ r o, ak = some ⟨r, o, none⟩ ∧ r < w.heap.size ∧ ∀ j, j < keep.length → w.cell? ⟨r, o + j, none⟩ = some (.int .i64 (keep.getD j 0))) := hk
  have HF : Hid (keep ≠ [] → ∀ r o, ak = some ⟨r, o, none⟩ → r ≠ b ∧ sv.ownBlock ≠ some r) := fun hne r o e => hoff hne r o keep.length ck (by rw [e])
  clear h ew hk hoff
  go_enter Tryd.func25, Tryd.ntmps25
  go_wp2
  go_loopg [8] d.pend.length (fun gk s8 wr => ∃ k : Nat, s8 = .int .i64 k ∧ k ≤ d.pend.length ∧ d.pend.length - k ≤ gk ∧ Aside (RMem wr b sv wv (d.at (crashTo d.pend keep torn cut d.sure k))) ∧ Hid (Turn (fun k => k = b ∨ sv.ownBlock = some k) w wr))
  case atStart => exact ⟨0, rfl, Nat.zero_le _, Nat.le_refl _, H.out, Turn.refl _ _⟩
  case round =>
    obtain ⟨k, rfl, hkn, hgk, HM, HT⟩ := hrel
    have hM := HM.out
    have c0 := hM.c0; have c1 := hM.c1; have ltr := hM.bl; have f1 := hM.fz 1; have f2 := hM.fz 2; have f3 := hM.fz 3; have c2 := hM.c2; have c3 := hM.c3
    rw [EW.out] at c1
    by_cases hkl2 : k < d.pend.length
    · have hklz : (k : Int) < (d.pend.length : Int) := by omega
      have hw := wAt_ok H.out.ok hkl2
      have hlen : (d.at (crashTo d.pend keep torn cut d.sure k)).sure.length = d.sure.length := crashTo_length _ _ _ _ _ _
      have hsl := H.out.ok.len
      obtain ⟨q, c', e1, x0, x1, hq⟩ := hM.wcell (k := k) hkl2
      obtain ⟨rfl, rfl⟩ : aw = some ⟨q, 0, none⟩ ∧ cw = c' := by have e2 := EW.out.symm.trans e1; simp [Dk.at] at e2; exact e2
      obtain ⟨r, cs, es, y0, yf, hr⟩ := hM.scell (i := (wAt d.pend k).1) (by rw [hlen]; exact hw.1)
      have x0' : wr.cell? ⟨q, k * 2, none⟩ = some (.int .i64 (wAt d.pend k).1) := x0
      have x1' : wr.cell? ⟨q, k * 2 + 1, none⟩ = some (.string (wAt d.pend k).2) := x1
      have SS : Hid (crashTo d.pend keep torn cut d.sure (k + 1) = crashStep d.pend keep torn cut (crashTo d.pend keep torn cut d.sure k) k) := crashTo_succ _ _ _ _ _ _
      unfold crashStep at SS
      generalize wAt d.pend k = p at *
      obtain ⟨pi, ps⟩ := p
      simp only at hw x0' x1' y0 yf SS
      rw [hlen] at es
      subst es
      have hpz : (pi : Int) < (d.sure.length : Int) := by omega
      have hsz : (sAt (d.at (crashTo d.pend keep torn cut d.sure k)).sure pi).size = 256 := sAt_size hM.ok.sz (by rw [hlen]; exact hw.1)
      obtain ⟨old, hold⟩ : ∃ x, x = sAt (d.at (crashTo d.pend keep torn cut d.sure k)).sure pi := ⟨_, rfl⟩
      have HOLD : Hid (old = sAt (crashTo d.pend keep torn cut d.sure k) pi) := hold
      rw [← hold] at y0 hsz
      have MS : Hid (∀ s : ByteArray, s.size = 256 → RMem (wr.setCell ⟨r, pi, none⟩ (.string s)) b (.slice (some ⟨r, 0, none⟩) d.sure.length cs) wv (d.at ((crashTo d.pend keep torn cut d.sure k).set pi s))) := fun s hs => by
        have hM' := hM
        rw [← hlen] at hM'
        have := hM'.setS pi (by rw [hlen]; exact hw.1) s hs
        rw [hlen] at this
        exact this
      have KK : Hid (∀ j, j < keep.length → ∃ r2 o2, ak = some ⟨r2, o2, none⟩ ∧ wr.cell? ⟨r2, o2 + j, none⟩ = some (.int .i64 (keep.getD j 0))) := fun j hj => by
        obtain ⟨r2, o2, e2, hr2, hc⟩ := HK.out (by intro e; rw [e] at hj; simp at hj)
        have hf := HF.out (by intro e; rw [e] at hj; simp at hj) r2 o2 e2
        exact ⟨r2, o2, e2, (World.cell?_of_block (a := ⟨r2, o2 + j, none⟩) (HT.out.block r2 hr2 (fun hx => hx.elim hf.1 hf.2))).trans (hc j hj)⟩
      clear x0 x1 hM e1 hlen hold
      go_wp2
      go_loopg [9, 10] keep.length (fun gk s9 s10 wq => ∃ (t : Nat) (x : Bool), s9 = .bool x ∧ s10 = .int .i64 t ∧ t ≤ keep.length ∧ keep.length - t ≤ gk ∧ Hid (x = (keep.take t).contains (k : Int)) ∧ wq = wr)
      case atStart => exact ⟨0, false, rfl, rfl, Nat.zero_le _, Nat.le_refl _, rfl, rfl⟩
      case round =>
        obtain ⟨t, x, rfl, rfl, ht, hgt, HX, rfl⟩ := hrel
        by_cases htl : t < keep.length
        · have htz : (t : Int) < (keep.length : Int) := by omega
          obtain ⟨r2, o2, rfl, z0⟩ := KK.out t htl
          have TK : Hid (keep.take (t + 1) = keep.take t ++ [keep.getD t 0]) := take_getD htl
          generalize keep.getD t 0 = kx at *
          cases x with
          | true =>
            have X2 : Hid (true = (keep.take (t + 1)).contains (k : Int)) := by
              show _ = _
              rw [TK.out, List.contains_eq_mem]
              have := HX.out
              rw [List.contains_eq_mem] at this
              simp only [List.mem_append]
              have hm : (k : Int) ∈ keep.take t := of_decide_eq_true this.symm
              simp [hm]
            clear HX TK
            go_wp2
            go_roundg (keep.length - (t + 1))
            case measure => omega
            case rel => exact ⟨t + 1, true, rfl, by go_num, by omega, Nat.le_refl _, X2, rfl⟩
          | false =>
            have X2 : Hid ((kx == (k : Int)) = (keep.take (t + 1)).contains (k : Int)) := by
              show _ = _
              rw [TK.out, List.contains_eq_mem]
              have := HX.out
              rw [List.contains_eq_mem] at this
              have hm : ¬ (k : Int) ∈ keep.take t := fun h => by rw [decide_eq_true h] at this; cases this
              by_cases e : kx = (k : Int)
              · subst e; simp
              · have e' : ¬ (k : Int) = kx := fun h => e h.symm
                simp only [List.mem_append, hm, false_or, List.mem_singleton, e', decide_false]
                exact beq_eq_false_iff_ne.2 e
            clear HX TK
            go_wp2
            go_roundg (keep.length - (t + 1))
            case measure => omega
            case rel => exact ⟨t + 1, (kx == (k : Int)), rfl, by go_num, by omega, Nat.le_refl _, X2, rfl⟩
        · have htz : ¬ (t : Int) < (keep.length : Int) := by omega
          obtain rfl : t = keep.length := by omega
          rw [List.take_length] at HX
          cases x with
          | false =>
            have SE : Hid (crashTo d.pend keep torn cut d.sure (k + 1) = crashTo d.pend keep torn cut d.sure k) := by show _ = _; rw [SS.out, ← HX.out]; rfl
            clear SS HX KK
            go_wp2
            go_roundg (d.pend.length - (k + 1))
            case measure => omega
            case rel => exact ⟨k + 1, by go_num, by omega, Nat.le_refl _, by show RMem _ _ _ _ _; rw [SE.out]; exact HM.out, HT⟩
          | true =>
            obtain ⟨cN, hcN⟩ : ∃ cN : Nat, cN = (if (k : Int) = torn then clampN cut else 256) := ⟨_, rfl⟩
            have hcle : cN ≤ 256 := by rw [hcN]; split; exact clampN_le _; exact Nat.le_refl _
            have hcz : (cN : Int) ≤ 256 := by omega
            have TE : Hid (ps.extract 0 cN ++ old.extract cN 256 = tear cN ps old) := by show _ = _; unfold tear; rw [hsz]
            have SE : Hid (crashTo d.pend keep torn cut d.sure (k + 1) = (crashTo d.pend keep torn cut d.sure k).set pi (tear cN ps old)) := by show _ = _; rw [SS.out, ← HX.out, hcN, HOLD.out]; rfl
            have FIN : Hid (RMem ((wr.setCell ⟨r, pi, none⟩ (.string (ps.extract 0 cN ++ old.extract cN 256))).alloc (.cells #[.int .i64 pi, .string ps] 81)).drew b (.slice (some ⟨r, 0, none⟩) d.sure.length cs) wv (d.at (crashTo d.pend keep torn cut d.sure (k + 1)))) := by
              show RMem _ _ _ _ _
              rw [SE.out, TE.out]
              exact ((MS.out _ (tear_size hcle hw.2 hsz)).alloc _).drew
            have T9 : Hid (Turn (fun k => k = b ∨ (Value.slice (some ⟨r, 0, none⟩) d.sure.length cs).ownBlock = some k) w ((wr.setCell ⟨r, pi, none⟩ (.string (ps.extract 0 cN ++ old.extract cN 256))).alloc (.cells #[.int .i64 pi, .string ps] 81)).drew) :=
              ((HT.out.trans (Turn.setCell (X := fun k => k = r) _ rfl _) (fun k hk => .inl (.inr (by rw [hk]; rfl)))).trans (Turn.alloc (fun _ => False) _ _) (fun _ h => h.elim)).trans (Turn.drew (fun _ => False) _) (fun _ h => h.elim)
            have hs1 : ps.size = 256 := hw.2
            clear SS HX KK MS SE TE HOLD
            by_cases htn : (k : Int) = torn
            · subst htn
              rw [if_pos rfl] at hcN
              have hmx : min (max cut 0) 256 = (cN : Int) := by rw [hcN]; unfold clampN; omega
              clear hcN
              go_wp2
              go_region
              go_wp2
              go_roundg (d.pend.length - (k + 1))
              case measure => omega
              case rel => exact ⟨k + 1, by go_num, by omega, Nat.le_refl _, FIN.out, T9⟩
            · rw [if_neg htn] at hcN
              subst hcN
              have htb : ((k : Int) == torn) = false := beq_eq_false_iff_ne.2 htn
              have ee : ps.extract 0 256 ++ old.extract 256 256 = ps.extract 0 256 := by simp
              rw [ee] at FIN T9
              clear ee
              go_wp2
              go_region
              go_wp2
              go_roundg (d.pend.length - (k + 1))
              case measure => omega
              case rel => exact ⟨k + 1, by go_num, by omega, Nat.le_refl _, FIN.out, T9⟩
    · have hklz : ¬ (k : Int) < (d.pend.length : Int) := by omega
      obtain rfl : k = d.pend.length := by omega
      have M4 : Hid _ := hM.clear
      clear hM
      go_wp2
      go_end0
      refine ⟨rfl, ((HT.out.trans (Turn.setCell (X := fun k => k = b) _ rfl _) (fun k hk => .inl (.inl hk))).trans (Turn.setCell (X := fun k => k = b) _ rfl _) (fun k hk => .inl (.inl hk))).trans (Turn.setCell (X := fun k => k = b) _ rfl _) (fun k hk => .inl (.inl hk)), ?_⟩
      have h4 := M4.out
      refine h4.upd ((OnlyD.setCell b 2 _ _).trans (OnlyD.setCell b 3 _ _)) rfl rfl ?_ ⟨h4.ok.len, h4.ok.sz, h4.ok.pd, (fun k hk => by cases hk)⟩
      rw [heap_setCell_same _ b 3 _ _ _ (heap_setCell_same _ b 2 _ _ _ h4.blk)]
      rfl

end
end Go.Proofs.YtkbakmgjplhjiaaDoor

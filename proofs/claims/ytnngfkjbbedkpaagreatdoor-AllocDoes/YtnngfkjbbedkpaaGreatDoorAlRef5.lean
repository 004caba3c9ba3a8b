/-
  The walks of the document's Drop and Put.
-/
import Derived.Test.YtnngfkjbbedkpaaGreatDoorAlRef4
namespace Go.Proofs.YtnngfkjbbedkpaaGreatDoor
open Go.Shelf Go.RowKit Go.Lib Go.Sort
set_option linter.unusedVariables false

theorem Rel.drop {x : TX} {y : RX} {room n : Nat} (h : Rel x y) (ok : x.Ok room) (hr : room ≤ 16384) (hn : (x.fresh (n : Int)).isSome = true) : n < x.pages ∧ Rel (x.drop n) ⟨y.free.set n true, y.fresh.set n false, y.has.set n false, y.kind, y.body⟩ := by
  have b := ok.fs n hn
  have hp := ok.pr
  have hnp : n < x.pages := by omega
  have l1 := h.len.l1
  have l2 := h.len.l2
  have l3 := h.len.l3
  unfold TX.drop
  rw [if_pos hn]
  refine ⟨hnp, ⟨by simp only [List.length_set]; exact l1, by simp only [List.length_set]; exact l2, by simp only [List.length_set]; exact l3, h.len.l4, h.len.l5⟩, fun i hi => ?_, fun i hi => ?_, fun i hi => ?_, fun i hi => ?_⟩
  · show bAt (y.free.set n true) i = hasB (unL x.free [((n : Int), (n : Int))]) i
    rw [bAt_setG _ (by omega)]
    refine (hasB_eq ?_).symm
    have hi' : i < x.pages := hi
    rw [unL_in, inR_one]
    by_cases hni : n = i
    · subst hni; rw [if_pos rfl]; simp only [iff_true]; right; omega
    · rw [if_neg hni, h.fr i hi, hasB_iff]
      constructor
      · rintro (a | a)
        · exact a
        · simp only at a; omega
      · exact fun a => .inl a
  · show bAt (y.fresh.set n false) i = (delF x.fresh n i).isSome
    rw [bAt_setG _ (by omega), delF_some]
    by_cases hni : n = i
    · subst hni; simp
    · rw [if_neg hni, h.fs i hi]; have : ¬ (i : Int) = (n : Int) := by omega
      simp [this]
  · show bAt (y.has.set n false) i = ((delF x.fresh n i).getD c0).there
    rw [bAt_setG _ (by omega)]
    unfold delF
    by_cases hni : n = i
    · subst hni; rw [if_pos rfl, if_pos rfl]; rfl
    · rw [if_neg hni, if_neg (by omega)]; exact h.hs i hi
  · show ((delF x.fresh n i).getD c0).there = true → _ = ((delF x.fresh n i).getD c0).kind ∧ _ = ((delF x.fresh n i).getD c0).body
    unfold delF
    by_cases hni : (i : Int) = (n : Int)
    · rw [if_pos hni]; intro a; cases a
    · rw [if_neg hni]; exact h.kd i hi
theorem kAt_setG (tl : List UInt8) {i j : Nat} (hi : i < tl.length) (s : UInt8) : kAt (tl.set i s) j = if i = j then s else kAt tl j := by
  unfold kAt
  rw [List.getD_eq_getElem?_getD, List.getD_eq_getElem?_getD, List.getElem?_set]
  by_cases h : i = j
  · subst h; simp [hi]
  · simp [h]
theorem Rel.put {x : TX} {y : RX} {room n : Nat} (h : Rel x y) (ok : x.Ok room) (hn : (x.fresh (n : Int)).isSome = true) (k : UInt8) {s : ByteArray} (hs : s.size ≤ 240) : n < x.pages ∧ Rel (x.put n k s).2 ⟨y.free, y.fresh, y.has.set n true, y.kind.set n k, y.body.set n s⟩ := by
  have b := ok.fs n hn
  have hnp : n < x.pages := by omega
  have l3 := h.len.l3
  have l4 := h.len.l4
  have l5 := h.len.l5
  unfold TX.put
  rw [if_pos hn, if_neg (by omega)]
  refine ⟨hnp, ⟨h.len.l1, h.len.l2, by simp only [List.length_set]; exact l3, by simp only [List.length_set]; exact l4, by simp only [List.length_set]; exact l5⟩, h.fr, fun i hi => ?_, fun i hi => ?_, fun i hi => ?_⟩
  · show bAt y.fresh i = (putF x.fresh n ⟨true, k, s⟩ i).isSome
    rw [putF_some, h.fs i hi]
    by_cases hni : (i : Int) = (n : Int)
    · rw [hni, hn]; simp
    · simp [hni]
  · show bAt (y.has.set n true) i = ((putF x.fresh n ⟨true, k, s⟩ i).getD c0).there
    rw [bAt_setG _ (by omega)]
    unfold putF
    by_cases hni : n = i
    · subst hni; rw [if_pos rfl, if_pos rfl]; rfl
    · rw [if_neg hni, if_neg (by omega)]; exact h.hs i hi
  · show ((putF x.fresh n ⟨true, k, s⟩ i).getD c0).there = true → kAt (y.kind.set n k) i = ((putF x.fresh n ⟨true, k, s⟩ i).getD c0).kind ∧ sAt (y.body.set n s) i = ((putF x.fresh n ⟨true, k, s⟩ i).getD c0).body
    rw [kAt_setG _ (by omega), sAt_set _ (by omega)]
    unfold putF
    by_cases hni : n = i
    · subst hni; rw [if_pos rfl, if_pos rfl, if_pos rfl]; intro _; exact ⟨rfl, rfl⟩
    · rw [if_neg hni, if_neg hni, if_neg (by omega)]; exact h.kd i hi

section
variable {B : Nat} {w0 w : World} {l : List Res} {r g c : Nat} {x : TX} {y : RX} {d : Dk}

set_option maxRecDepth 100000 in
set_option maxHeartbeats 2000000 in
theorem rdrop (h : Sep B w0 w (RTx r g y :: l)) {room : Nat} (hR : Rel x y) (ok : x.Ok room) (hm : room ≤ 16384) (id : Int) : Calls Tryz.prog 14 #[ptr r, .int .i64 id] w fun e w' => e = .returned (.tuple #[]) ∧ ∃ y', Rel (x.drop id) y' ∧ Sep B w0 w' (RTx r g y' :: l) := by
  have CI := ris h id
  rw [hR.is ok] at CI
  have HS : Hid (Sep B w0 w (RTx r g y :: l)) := h
  by_cases hi : (x.fresh id).isSome = true
  · have b := ok.fs id hi
    obtain ⟨n, rfl⟩ : ∃ n : Nat, id = (n : Int) := ⟨id.toNat, by omega⟩
    obtain ⟨hnp, R2⟩ := hR.drop ok hm hi
    have A3 : Hid _ := R2
    have l1 := hR.len.l1
    have l2 := hR.len.l2
    have l3 := hR.len.l3
    rw [hi] at CI
    have CI2 : Hid _ := CI
    generalize x.pages = P at *
    generalize x.drop (n : Int) = x2 at *
    have hnz : (n : Int) < (P : Int) := by omega
    clear h CI hi R2 hR b
    go_enter Tryz.func14, Tryz.ntmps14
    go_wp2_with fail
    refine Calls.mono CI2.out ?_
    rintro e w1 ⟨rfl, b1⟩
    obtain ⟨v1, v2, v3, v4, v5, h0⟩ := (HS.out.below b1).rtxOpen
    obtain ⟨q2, c2, e2, _, k2, f2⟩ := brow_at (n := n) h0.up2 (by omega)
    obtain ⟨q1, c1, e1, _, _, _⟩ := brow_at (n := n) h0.up1 (by omega)
    obtain ⟨q3, c3, e3, _, _, _⟩ := brow_at (n := n) h0.up3 (by omega)
    subst e1 e2 e3
    rw [l1, l2, l3] at h0
    obtain ⟨hr0, m0, m1, m2, m3, m4, m5, mf⟩ := rtx_cells h0
    have t1 := (Sep.bool_set (s := false) h0.up2 (i := n) (by omega) l2).dn2
    obtain ⟨_, n0, n1, n2, n3, n4, n5, nf⟩ := rtx_cells t1
    obtain ⟨q1', c1', e1', _, k1, f1⟩ := brow_at (n := n) t1.up1 (by omega)
    rw [l1] at e1'
    cases e1'
    have t2 := (Sep.bool_set (s := true) t1.up1 (i := n) (by omega) l1).up1
    obtain ⟨_, o0, o1, o2, o3, o4, o5, of⟩ := rtx_cells t2
    obtain ⟨q3', c3', e3', _, k3, f3⟩ := brow_at (n := n) t2.up3 (by omega)
    rw [l3] at e3'
    cases e3'
    have t3 := (Sep.bool_set (s := false) t2.up3 (i := n) (by omega) l3).dn3
    have S3 : Hid _ := Sep.rtxShut (y := ⟨y.free.set n true, y.fresh.set n false, y.has.set n false, y.kind, y.body⟩) (t3 : Sep B w0 _ (rL r g _ _ _ _ _ ⟨y.free.set n true, y.fresh.set n false, y.has.set n false, y.kind, y.body⟩ l))
    clear t1 t2 t3 h0 CI2 b1 HS
    go_wp2
    go_end0
    exact ⟨rfl, _, A3.out, S3.out⟩
  · have hf : (x.fresh id).isSome = false := by simpa using hi
    have E : x.drop id = x := by unfold TX.drop; rw [if_neg hi]
    rw [hf] at CI
    have CI2 : Hid _ := CI
    have A3 : Hid (Rel (x.drop id) y) := by show Rel _ _; rw [E]; exact hR
    generalize x.drop id = x2 at *
    clear h CI hi hf hR E
    go_enter Tryz.func14, Tryz.ntmps14
    go_wp2_with fail
    refine Calls.mono CI2.out ?_
    rintro e w1 ⟨rfl, b1⟩
    have S1 : Hid (Sep B w0 w1 (RTx r g y :: l)) := HS.out.below b1
    clear CI2 b1
    go_wp2
    go_end0
    exact ⟨rfl, _, A3.out, S1.out⟩
end

end Go.Proofs.YtnngfkjbbedkpaaGreatDoor

/-
  The walks of the document's Put and Get.
-/
import Derived.Test.YtnngfkjbbedkpaaGreatDoorAlRef5
namespace Go.Proofs.YtnngfkjbbedkpaaGreatDoor
open Go.Shelf Go.RowKit Go.Lib Go.Sort
set_option linter.unusedVariables false

section
variable {B : Nat} {w0 w : World} {l : List Res} {r g c : Nat} {x : TX} {y : RX} {d : Dk}
theorem krow_at {tl : List UInt8} {v : Value} {n : Nat} (h : Sep B w0 w (RowR 38 v (tl.map kdV) :: l)) (hn : n < tl.length) : ∃ q cp, v = .slice (some ⟨q, 0, none⟩) tl.length cp ∧ q < w.heap.size ∧ w.cell? ⟨q, n, none⟩ = some (.int .u8 ((kAt tl n).toNat : Int)) ∧ w.frozen? ⟨q, n, none⟩ = false := by
  obtain ⟨r2, c2, e2, _, hr2, hcx, hfx⟩ := h.cell (j := n) (by simpa using hn)
  rw [List.length_map] at e2
  subst e2
  obtain ⟨k1, k2⟩ := Sep.kind_at (tl := tl) (i := n) h hn
  exact ⟨r2, c2, rfl, hr2, k1, k2⟩
theorem srow_at {tl : List ByteArray} {v : Value} {n : Nat} (h : Sep B w0 w (RowR 9 v (tl.map Value.string) :: l)) (hn : n < tl.length) : ∃ q cp, v = .slice (some ⟨q, 0, none⟩) tl.length cp ∧ q < w.heap.size ∧ w.cell? ⟨q, n, none⟩ = some (.string (sAt tl n)) ∧ w.frozen? ⟨q, n, none⟩ = false := by
  obtain ⟨r2, c2, e2, _, hr2, hcx, hfx⟩ := h.cell (j := n) (by simpa using hn)
  rw [List.length_map] at e2
  subst e2
  exact ⟨r2, c2, rfl, hr2, Sep.str_at (want := tl) (i := n) h hn, Sep.str_fz (want := tl) (i := n) h hn⟩

set_option maxRecDepth 100000 in
set_option maxHeartbeats 2000000 in
theorem rput2 (h : Sep B w0 w (RTx r g y :: l)) {room : Nat} (hR : Rel x y) (ok : x.Ok room) (hm : room ≤ 16384) (id : Int) (kind : UInt8) (s : ByteArray) (hs : s.size ≤ maxLen) : Calls Tryz.prog 16 #[ptr r, .int .i64 id, .int .u8 (kind.toNat : Int), .string s] w fun e w' => e = .returned (.int .i64 (x.put id kind s).1) ∧ ∃ y', Rel (x.put id kind s).2 y' ∧ Sep B w0 w' (RTx r g y' :: l) := by
  have CI := ris h id
  rw [hR.is ok] at CI
  have HS : Hid (Sep B w0 w (RTx r g y :: l)) := h
  unfold maxLen at hs
  by_cases hi : (x.fresh id).isSome = true
  · rw [hi] at CI
    have CI2 : Hid _ := CI
    by_cases hz : 240 < s.size
    · have hz2 : (240 : Int) < (s.size : Int) := by omega
      have E : x.put id kind s = (50, x) := by unfold TX.put; rw [if_pos hi, if_pos hz]
      rw [E]
      simp only
      have A3 : Hid (Rel x y) := hR
      clear h CI hi hz E hR
      go_enter Tryz.func16, Tryz.ntmps16
      go_wp2_with fail
      refine Calls.mono CI2.out ?_
      rintro e w1 ⟨rfl, b1⟩
      have S1 : Hid (Sep B w0 w1 (RTx r g y :: l)) := HS.out.below b1
      clear CI2 b1
      go_wp2
      go_ret
      exact ⟨rfl, _, A3.out, S1.out⟩
    · have hz2 : ¬ (240 : Int) < (s.size : Int) := by omega
      have b := ok.fs id hi
      obtain ⟨n, rfl⟩ : ∃ n : Nat, id = (n : Int) := ⟨id.toNat, by omega⟩
      have hpr := ok.pr
      obtain ⟨hnp, R2⟩ := hR.put ok hi kind (s := s) (by omega)
      have E : (x.put n kind s).1 = 0 := by unfold TX.put; rw [if_pos hi, if_neg hz]
      rw [E]
      have A3 : Hid _ := R2
      have l3 := hR.len.l3
      have l4 := hR.len.l4
      have l5 := hR.len.l5
      generalize x.pages = P at *
      generalize (x.put (n : Int) kind s).2 = x2 at *
      have hnz : (n : Int) < (P : Int) := by omega
      clear h CI hi R2 hR b E
      go_enter Tryz.func16, Tryz.ntmps16
      go_wp2_with fail
      refine Calls.mono CI2.out ?_
      rintro e w1 ⟨rfl, b1⟩
      obtain ⟨v1, v2, v3, v4, v5, h0⟩ := (HS.out.below b1).rtxOpen
      obtain ⟨q3, c3, e3, _, k3, f3⟩ := brow_at (n := n) h0.up3 (by omega)
      obtain ⟨q4, c4, e4, _, _, _⟩ := krow_at (n := n) h0.up4 (by omega)
      obtain ⟨q5, c5, e5, _, _, _⟩ := srow_at (n := n) h0.up5 (by omega)
      subst e3 e4 e5
      rw [l3, l4, l5] at h0
      obtain ⟨hr0, m0, m1, m2, m3, m4, m5, mf⟩ := rtx_cells h0
      have t1 := (Sep.bool_set (s := true) h0.up3 (i := n) (by omega) l3).dn3
      obtain ⟨_, n0, n1, n2, n3, n4, n5, nf⟩ := rtx_cells t1
      obtain ⟨q4', c4', e4', _, k4, f4⟩ := krow_at (n := n) t1.up4 (by omega)
      rw [l4] at e4'
      cases e4'
      have t2 := (Sep.kind_set (s := kind) t1.up4 (i := n) (by omega) l4).dn4
      obtain ⟨_, o0, o1, o2, o3, o4, o5, of⟩ := rtx_cells t2
      obtain ⟨q5', c5', e5', _, k5, f5⟩ := srow_at (n := n) t2.up5 (by omega)
      rw [l5] at e5'
      cases e5'
      have t3 := (Sep.str_set (s := s) t2.up5 (i := n) (by omega) l5).dn5
      have S3 : Hid _ := Sep.rtxShut (y := ⟨y.free, y.fresh, y.has.set n true, y.kind.set n kind, y.body.set n s⟩) (t3 : Sep B w0 _ (rL r g _ _ _ _ _ ⟨y.free, y.fresh, y.has.set n true, y.kind.set n kind, y.body.set n s⟩ l))
      clear t1 t2 t3 h0 CI2 b1 HS
      go_wp2
      go_ret
      exact ⟨rfl, _, A3.out, S3.out⟩
  · have hf : (x.fresh id).isSome = false := by simpa using hi
    have E : x.put id kind s = (1, x) := by unfold TX.put; rw [if_neg hi]
    rw [hf] at CI
    rw [E]
    simp only
    have CI2 : Hid _ := CI
    have A3 : Hid (Rel x y) := hR
    clear h CI hi hf hR E
    go_enter Tryz.func16, Tryz.ntmps16
    go_wp2_with fail
    refine Calls.mono CI2.out ?_
    rintro e w1 ⟨rfl, b1⟩
    have S1 : Hid (Sep B w0 w1 (RTx r g y :: l)) := HS.out.below b1
    clear CI2 b1
    go_wp2
    go_ret
    exact ⟨rfl, _, A3.out, S1.out⟩
end

end Go.Proofs.YtnngfkjbbedkpaaGreatDoor

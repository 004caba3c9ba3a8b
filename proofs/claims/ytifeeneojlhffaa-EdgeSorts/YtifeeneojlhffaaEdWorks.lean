/-
  The walk of the document's examples (works): it answers true, and turns nothing that was there.
-/
import Derived.Test.YtifeeneojlhffaaEdKey
import Derived.Test.YtifeeneojlhffaaOps
import Derived.Test.YtifeeneojlhffaaRefFn
namespace Go.Proofs.Ytifeeneojlhffaa
open Go.Shelf Go.RowKit Go.Lib Go.Sort

theorem ex_mk : mkP 5 2 = (2, 5) ∧ mkE 5 2 = 0 ∧ mkP 3 3 = (0, 0) ∧ mkE 3 3 = 31 ∧ mkP 3 1048576 = (0, 0) ∧ mkE 3 1048576 = 30 := by decide +kernel
theorem ex_key : keyS 1 258 = [0, 0, 0, 1, 0, 0, 1, 2] ∧ keyE 1 258 = 0 := by decide +kernel
theorem ex_prs : prs ⟨#[0, 0, 0, 1, 0, 0, 1, 2]⟩ = (1, 258, 0) := by decide +kernel
theorem ex_vx : vxE (-1) = 30 := by decide +kernel

theorem mk_ex1 (w : World) : Calls Try.prog 11 #[.int .i64 5, .int .i64 2] w fun e w' => e = .returned (.tuple #[.agg #[.int .i64 2, .int .i64 5], .int .i64 0]) ∧ Below w.heap.size w w' := by
  have h := make_any 5 2 w
  rw [ex_mk.1, ex_mk.2.1] at h
  exact h
theorem mk_ex2 (w : World) : Calls Try.prog 11 #[.int .i64 3, .int .i64 3] w fun e w' => e = .returned (.tuple #[.agg #[.int .i64 0, .int .i64 0], .int .i64 31]) ∧ Below w.heap.size w w' := by
  have h := make_any 3 3 w
  rw [ex_mk.2.2.1, ex_mk.2.2.2.1] at h
  exact h
theorem mk_ex3 (w : World) : Calls Try.prog 11 #[.int .i64 3, .int .i64 1048576] w fun e w' => e = .returned (.tuple #[.agg #[.int .i64 0, .int .i64 0], .int .i64 30]) ∧ Below w.heap.size w w' := by
  have h := make_any 3 1048576 w
  rw [ex_mk.2.2.2.2.1, ex_mk.2.2.2.2.2] at h
  exact h
theorem key_ex (w : World) : Calls Try.prog 13 #[.int .i64 1, .int .i64 258] w fun e w' => e = .returned (.tuple #[.string ⟨#[0, 0, 0, 1, 0, 0, 1, 2]⟩, .int .i64 0]) ∧ Below w.heap.size w w' := by
  have h := key_any 1 258 w
  rw [ex_key.1, ex_key.2] at h
  exact h
theorem prs_ex (w : World) : Calls Try.prog 14 #[.string ⟨#[0, 0, 0, 1, 0, 0, 1, 2]⟩] w fun e w' => e = .returned (.tuple #[.int .i64 1, .int .i64 258, .int .i64 0]) ∧ Below w.heap.size w w' := by
  have h := parse_any ⟨#[0, 0, 0, 1, 0, 0, 1, 2]⟩ w (by decide +kernel)
  rw [ex_prs] at h
  exact h
theorem vx_ex (w : World) : Calls Try.prog 12 #[.int .i64 (-1)] w fun e w' => e = .returned (.int .i64 30) ∧ w = w' := by
  have h := vertex_any (-1) w
  rw [ex_vx] at h
  exact h

theorem row_block {α : Type} [Inhabited α] {enc : α → List Value} {k : Nat} {w : World} {b n : Nat} {T : TypeId} {fr : Nat × Nat} {cs : Array Value} {l : List α} (hb : w.heap[b]? = some (.cells cs T fr)) (hcs : cs = flatK enc k l.toArray) (hn : l.length = n) : Row enc k w (.slice (some ⟨b, 0, none⟩) n n) l := by
  subst hn
  refine ⟨_, _, rfl, Nat.le_refl _, (fun h => by cases h), fun _ => ⟨b, 0, rfl, (Array.getElem?_eq_some_iff.1 hb).1, fun t ht => ?_⟩⟩
  simp only [World.cell?, hb, Nat.zero_add, hcs]
  have ht' : t < (flatK enc k l.toArray).size := by simpa using ht
  rw [Array.getElem?_eq_getElem ht', getElem!_pos _ t ht']
  rfl

theorem ex_diff {d : List Ch} (h : diffOf [(1, 2), (3, 4)] [(1, 2), (2, 9)] d) : d = [((2, 9), true), ((3, 4), false)] := by
  refine sc_ext _ _ h.1 ?_ fun c => ?_
  · unfold SC; decide
  · rw [h.2 c]
    obtain ⟨⟨p, q⟩, f⟩ := c
    cases f <;> simp <;> omega

theorem diff_ex (w : World) : Calls Try.prog 24 #[.slice (some ⟨w.heap.size, 0, none⟩) 2 2, .slice (some ⟨w.heap.size + 1, 0, none⟩) 2 2] ((w.alloc (.cells #[.int .i64 1, .int .i64 2, .int .i64 3, .int .i64 4] 25)).alloc (.cells #[.int .i64 1, .int .i64 2, .int .i64 2, .int .i64 9] 25)) fun e w' =>
    ∃ b off c, 2 ≤ c ∧ e = .returned (.slice (some ⟨b, off, none⟩) 2 c) ∧ b < w'.heap.size ∧ w'.cell? ⟨b, off, none⟩ = some (.int .i64 2) ∧ w'.cell? ⟨b, off + 1, none⟩ = some (.int .i64 9) ∧ w'.cell? ⟨b, off + 2, none⟩ = some (.bool true) ∧ w'.cell? ⟨b, off + 3, none⟩ = some (.int .i64 3) ∧ w'.cell? ⟨b, off + 4, none⟩ = some (.int .i64 4) ∧ w'.cell? ⟨b, off + 5, none⟩ = some (.bool false) ∧ Below w.heap.size w w' := by
  have r1 : Row encP 2 ((w.alloc (.cells #[.int .i64 1, .int .i64 2, .int .i64 3, .int .i64 4] 25)).alloc (.cells #[.int .i64 1, .int .i64 2, .int .i64 2, .int .i64 9] 25)) (.slice (some ⟨w.heap.size, 0, none⟩) 2 2) [(1, 2), (3, 4)] :=
    row_block (cs := #[.int .i64 1, .int .i64 2, .int .i64 3, .int .i64 4]) (by rw [Below.heap_alloc _ _ _ (by simp)]; exact heap_alloc_new _ _) (by kernel_rfl) rfl
  have r2 : Row encP 2 ((w.alloc (.cells #[.int .i64 1, .int .i64 2, .int .i64 3, .int .i64 4] 25)).alloc (.cells #[.int .i64 1, .int .i64 2, .int .i64 2, .int .i64 9] 25)) (.slice (some ⟨w.heap.size + 1, 0, none⟩) 2 2) [(1, 2), (2, 9)] :=
    row_block (cs := #[.int .i64 1, .int .i64 2, .int .i64 2, .int .i64 9]) (by have := heap_alloc_new (w.alloc (.cells #[.int .i64 1, .int .i64 2, .int .i64 3, .int .i64 4] 25)) (.cells #[.int .i64 1, .int .i64 2, .int .i64 2, .int .i64 9] 25); rw [World.size_alloc] at this; exact this) (by kernel_rfl) rfl
  refine (Diff_any _ _ _ _ _ r1 r2 (by decide)).mono ?_
  rintro e w' ⟨v', d, rfl, ho, hd, _, hb⟩
  obtain rfl := ex_diff hd
  obtain ⟨ao, c, rfl, hc, _, h3⟩ := ho
  obtain ⟨b, off, rfl, _, hlt, hH⟩ := h3 (by simp)
  have g : ∀ t, t < 6 → w'.cell? ⟨b, off + t, none⟩ = some (flatK encC 3 #[((2, 9), true), ((3, 4), false)])[t]! := fun t ht => (hH t (by simpa using ht)).1
  refine ⟨b, off, c, hc, rfl, hlt, (g 0 (by decide)).trans (by kernel_rfl), (g 1 (by decide)).trans (by kernel_rfl), (g 2 (by decide)).trans (by kernel_rfl), (g 3 (by decide)).trans (by kernel_rfl), (g 4 (by decide)).trans (by kernel_rfl), (g 5 (by decide)).trans (by kernel_rfl), ?_⟩
  exact (((Below.refl _ w).alloc (Nat.le_refl _) _).alloc (by simp) _).trans (hb.mono (by simp; omega))

theorem cmp_ex (w : World) : Calls Try.prog 16 #[.agg #[.int .i64 2, .int .i64 5], .agg #[.int .i64 2, .int .i64 5]] w fun e w' => e = .returned (.int .i64 0) ∧ Below w.heap.size w w' := by
  refine (cmp_any (2, 5) (2, 5) w).mono ?_
  rintro e w' ⟨rfl, hg⟩
  exact ⟨rfl, GR.below hg⟩

set_option maxRecDepth 100000 in
set_option maxHeartbeats 4000000 in
theorem works_any (w : World) : Calls Try.prog 9 #[] w fun r w' => r = .returned (.bool true) ∧ Below w.heap.size w w' := by
  have E1 : ∀ W, Sem.run Try.prog (binOp .eql 25 (.agg #[.int .i64 2, .int .i64 5]) (.agg #[.int .i64 2, .int .i64 5])) W = .ok (.bool true) W := fun W => eqlP (x := (2, 5)) (y := (2, 5)) rfl W
  have G1 : ∀ op a b W, Sem.run Try.prog (eqGuard op 25 a b (.agg #[.int .i64 2, .int .i64 5]) (.agg #[.int .i64 2, .int .i64 5])) W = .ok () W := gdP (2, 5) (2, 5)
  have E2 : ∀ W, Sem.run Try.prog (binOp .eql 50 (.agg #[.int .i64 2, .int .i64 9, .bool true]) (.agg #[.int .i64 2, .int .i64 9, .bool true])) W = .ok (.bool true) W := fun W => eqlC (x := ((2, 9), true)) (y := ((2, 9), true)) rfl W
  have G2 : ∀ op a b W, Sem.run Try.prog (eqGuard op 50 a b (.agg #[.int .i64 2, .int .i64 9, .bool true]) (.agg #[.int .i64 2, .int .i64 9, .bool true])) W = .ok () W := gdC ((2, 9), true) ((2, 9), true)
  have E3 : ∀ W, Sem.run Try.prog (binOp .eql 50 (.agg #[.int .i64 3, .int .i64 4, .bool false]) (.agg #[.int .i64 3, .int .i64 4, .bool false])) W = .ok (.bool true) W := fun W => eqlC (x := ((3, 4), false)) (y := ((3, 4), false)) rfl W
  have G3 : ∀ op a b W, Sem.run Try.prog (eqGuard op 50 a b (.agg #[.int .i64 3, .int .i64 4, .bool false]) (.agg #[.int .i64 3, .int .i64 4, .bool false])) W = .ok () W := gdC ((3, 4), false) ((3, 4), false)
  go_enter Try.func9, Try.ntmps9
  go_wp2_with fail
  refine (mk_ex1 _).mono ?_
  rintro e w1 ⟨rfl, b1⟩
  have k1 := b1.size
  go_wp2_with fail
  have p0 : (w1.alloc (.cells #[.int .i64 2, .int .i64 5] 25)).cell? ⟨w1.heap.size, 0, none⟩ = some (.int .i64 2) := by simp
  have p1 : (w1.alloc (.cells #[.int .i64 2, .int .i64 5] 25)).cell? ⟨w1.heap.size, 1, none⟩ = some (.int .i64 5) := by simp
  have hz : (w1.alloc (.cells #[.int .i64 2, .int .i64 5] 25)).heap.size = w1.heap.size + 1 := by simp
  have B1 : Hid (Below w.heap.size w (w1.alloc (.cells #[.int .i64 2, .int .i64 5] 25))) := b1.alloc k1 _
  clear b1
  generalize w1.alloc (.cells #[.int .i64 2, .int .i64 5] 25) = v1 at p0 p1 hz B1 ⊢
  refine (mk_ex2 _).mono ?_
  rintro e w2 ⟨rfl, b2⟩
  have k2 := b2.size
  have B2 : Hid (Below v1.heap.size v1 (w2.alloc (.cells #[.int .i64 0, .int .i64 0] 25))) := b2.alloc k2 _
  clear b2
  go_wp2_with fail
  generalize hv2 : w2.alloc (.cells #[.int .i64 0, .int .i64 0] 25) = v2 at B2 ⊢
  clear hv2
  refine (mk_ex3 _).mono ?_
  rintro e w3 ⟨rfl, b3⟩
  have k3 := b3.size
  have B3 : Hid (Below v2.heap.size v2 (w3.alloc (.cells #[.int .i64 0, .int .i64 0] 25))) := b3.alloc k3 _
  clear b3
  go_wp2_with fail
  generalize hv3 : w3.alloc (.cells #[.int .i64 0, .int .i64 0] 25) = v3 at B3 ⊢
  clear hv3
  refine (key_ex _).mono ?_
  rintro e w4 ⟨rfl, b4⟩
  have B4 : Hid (Below v3.heap.size v3 w4) := b4
  clear b4
  go_wp2_with fail
  refine (prs_ex _).mono ?_
  rintro e w5 ⟨rfl, b5⟩
  have B5 : Hid (Below w4.heap.size w4 w5) := b5
  clear b5
  go_wp2_with fail
  refine (diff_ex _).mono ?_
  rintro e w6 ⟨bd, od, cd, hcd, rfl, hbd, d0, d1, d2, d3, d4, d5, b6⟩
  have s2 := B2.out.size
  have s3 := B3.out.size
  have s4 := B4.out.size
  have s5 := B5.out.size
  have s6 := b6.size
  have BW : Hid (Below v1.heap.size v1 w6) := (((B2.out.trans (B3.out.mono s2)).trans (B4.out.mono (by omega))).trans (B5.out.mono (by omega))).trans (b6.mono (by omega))
  have q0 : w6.cell? ⟨w1.heap.size, 0, none⟩ = some (.int .i64 2) := by rw [BW.out.cell (p := ⟨w1.heap.size, 0, none⟩) (by simp; omega)]; exact p0
  have q1 : w6.cell? ⟨w1.heap.size, 1, none⟩ = some (.int .i64 5) := by rw [BW.out.cell (p := ⟨w1.heap.size, 1, none⟩) (by simp; omega)]; exact p1
  have BB : Hid (Below w.heap.size w w6) := B1.out.trans (BW.out.mono (by omega))
  clear B1 B2 B3 B4 B5 b6 BW p0 p1 s2 s3 s4 s5
  go_wp2_with fail
  refine (vx_ex _).mono ?_
  rintro e w7 ⟨rfl, rfl⟩
  go_wp2_with fail
  refine (cmp_ex _).mono ?_
  rintro e w8 ⟨rfl, b8⟩
  go_wp2
  go_ret
  have s7 := BB.out.size
  exact ⟨rfl, BB.out.trans (b8.mono s7)⟩

end Go.Proofs.Ytifeeneojlhffaa

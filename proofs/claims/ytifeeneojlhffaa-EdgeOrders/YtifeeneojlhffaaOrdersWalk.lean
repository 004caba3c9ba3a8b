/-
  The walk of the law EdgeOrders.
-/
import Derived.Test.YtifeeneojlhffaaEdWorks
namespace Go.Proofs.Ytifeeneojlhffaa
open Go.Shelf Go.RowKit Go.Lib Go.Sort

theorem beNat_app (x y : List UInt8) : beNat (x ++ y) = beNat x * 256 ^ y.length + beNat y := by
  have : beNat (x ++ y) = y.foldl (fun a c => a * 256 + c.toNat) (beNat x) := by simp [beNat, List.foldl_append]
  rw [this, beNat_foldl]

theorem keyS_nat {n m : Nat} (hn : n < 1048576) (hm : m < 1048576) : (keyS n m).length = 8 ∧ beNat (keyS n m) = n * 4294967296 + m := by
  have h1 : vtx (n : Int) = true := by simp [vtx]; omega
  have h2 : vtx (m : Int) = true := by simp [vtx]; omega
  have e : keyS n m = beBytes 4 n ++ beBytes 4 m := by unfold keyS; rw [if_pos (by rw [h1, h2]; rfl)]; rfl
  rw [e]
  refine ⟨by rw [List.length_append, beBytes_length, beBytes_length], ?_⟩
  rw [beNat_app, beBytes_length, beNat_bytes 4 n (by omega), beNat_bytes 4 m (by omega)]

theorem key_less {a b : Pr} (h1 : vtx a.1 = true) (h2 : vtx a.2 = true) (h3 : vtx b.1 = true) (h4 : vtx b.2 = true) : Op.bytesLess (keyS a.1 a.2) (keyS b.1 b.2) = ltP a b ∧ (keyS a.1 a.2 == keyS b.1 b.2) = decide (a = b) := by
  obtain ⟨a, a'⟩ := a
  obtain ⟨b, b'⟩ := b
  simp only at h1 h2 h3 h4 ⊢
  obtain ⟨n, rfl, hn⟩ := vtx_nat h1
  obtain ⟨n', rfl, hn'⟩ := vtx_nat h2
  obtain ⟨m, rfl, hm⟩ := vtx_nat h3
  obtain ⟨m', rfl, hm'⟩ := vtx_nat h4
  obtain ⟨l1, e1⟩ := keyS_nat hn hn'
  obtain ⟨l2, e2⟩ := keyS_nat hm hm'
  constructor
  · rw [bytesLess_nat _ _ (by rw [l1, l2]), e1, e2]
    unfold ltP
    rw [decide_eq_decide]
    simp only
    omega
  · by_cases h : keyS n n' = keyS m m'
    · rw [h]
      rw [h, e2] at e1
      have : ((n : Int), (n' : Int)) = ((m : Int), (m' : Int)) := by rw [Prod.mk.injEq]; omega
      rw [this]
      simp
    · have : ((n : Int), (n' : Int)) ≠ ((m : Int), (m' : Int)) := by
        intro e
        rw [Prod.mk.injEq] at e
        apply h
        rw [e.1, e.2]
      rw [decide_eq_false this]
      exact beq_eq_false_iff_ne.2 h

/-- Two pairs in their boxes. -/
structure Boxes (w : World) (a b : Pr) (W : World) : Prop where
  below : Below w.heap.size w W
  size : w.heap.size + 2 ≤ W.heap.size
  c0 : W.cell? ⟨w.heap.size, 0, none⟩ = some (.int .i64 a.1)
  c1 : W.cell? ⟨w.heap.size, 1, none⟩ = some (.int .i64 a.2)
  c2 : W.cell? ⟨w.heap.size + 1, 0, none⟩ = some (.int .i64 b.1)
  c3 : W.cell? ⟨w.heap.size + 1, 1, none⟩ = some (.int .i64 b.2)

theorem Boxes.made (w : World) (a b : Pr) : Boxes w a b ((w.alloc (.cells #[.int .i64 a.1, .int .i64 a.2] 25)).alloc (.cells #[.int .i64 b.1, .int .i64 b.2] 25)) :=
  ⟨((Below.refl _ w).alloc (Nat.le_refl _) _).alloc (by simp) _, by simp, by simp, by simp, by simp, by simp⟩
theorem Boxes.step {w W W' : World} {a b : Pr} (h : Boxes w a b W) (k : Below W.heap.size W W') : Boxes w a b W' := by
  have hs := h.size
  have ks := k.size
  refine ⟨h.below.trans (k.mono h.below.size), by omega, ?_, ?_, ?_, ?_⟩
  · rw [k.cell (p := ⟨w.heap.size, 0, none⟩) (by simp; omega)]; exact h.c0
  · rw [k.cell (p := ⟨w.heap.size, 1, none⟩) (by simp; omega)]; exact h.c1
  · rw [k.cell (p := ⟨w.heap.size + 1, 0, none⟩) (by simp; omega)]; exact h.c2
  · rw [k.cell (p := ⟨w.heap.size + 1, 1, none⟩) (by simp; omega)]; exact h.c3

namespace edgeOrders
set_option maxRecDepth 100000 in
set_option maxHeartbeats 2000000 in
theorem go_ltok (a b : Pr) (w : World) (X Y : List UInt8) (L1 : Op.bytesLess X Y = true) (L2 : (X == Y) = false) (CM : Hid (∀ w, Calls Try.prog 16 #[.agg #[.int .i64 a.1, .int .i64 a.2], .agg #[.int .i64 b.1, .int .i64 b.2]] w fun e w' => e = .returned (.int .i64 (-1)) ∧ Below w.heap.size w w'))
    (LA : Hid (∀ w, Calls Try.prog 17 #[.agg #[.int .i64 a.1, .int .i64 a.2], .agg #[.int .i64 b.1, .int .i64 b.2]] w fun e w' => e = .returned (.bool true) ∧ Below w.heap.size w w'))
    (LB : Hid (∀ w, Calls Try.prog 17 #[.agg #[.int .i64 b.1, .int .i64 b.2], .agg #[.int .i64 a.1, .int .i64 a.2]] w fun e w' => e = .returned (.bool false) ∧ Below w.heap.size w w'))
    (KA : Hid (∀ w, Calls Try.prog 13 #[.int .i64 a.1, .int .i64 a.2] w fun e w' => e = .returned (.tuple #[.string ⟨X.toArray⟩, .int .i64 0]) ∧ Below w.heap.size w w'))
    (KB : Hid (∀ w, Calls Try.prog 13 #[.int .i64 b.1, .int .i64 b.2] w fun e w' => e = .returned (.tuple #[.string ⟨Y.toArray⟩, .int .i64 0]) ∧ Below w.heap.size w w'))
    :
    Calls Try.prog 5 #[.agg #[.int .i64 a.1, .int .i64 a.2], .agg #[.int .i64 b.1, .int .i64 b.2]] w fun e w' => e = .returned (.bool true) ∧ Below w.heap.size w w' := by
  have D0 : Hid (Boxes w a b ((w.alloc (.cells #[.int .i64 a.1, .int .i64 a.2] 25)).alloc (.cells #[.int .i64 b.1, .int .i64 b.2] 25))) := Boxes.made w a b
  go_enter Try.func5, Try.ntmps5
  go_wp2_with fail
  generalize (w.alloc (.cells #[.int .i64 a.1, .int .i64 a.2] 25)).alloc (.cells #[.int .i64 b.1, .int .i64 b.2] 25) = w0 at D0 ⊢
  refine Calls.mono (works_any _) ?_
  rintro e w1 ⟨rfl, b1⟩
  have D1 : Hid (Boxes w a b w1) := D0.out.step b1
  clear b1 D0
  have p00 := D1.out.c0; have p01 := D1.out.c1; have p02 := D1.out.c2; have p03 := D1.out.c3
  go_wp2_with fail
  refine Calls.mono (CM.out _) ?_
  rintro e w2 ⟨rfl, b2⟩
  have D2 : Hid (Boxes w a b w2) := D1.out.step b2
  clear b2 D1
  have p10 := D2.out.c0; have p11 := D2.out.c1; have p12 := D2.out.c2; have p13 := D2.out.c3
  clear p00 p01 p02 p03
  go_wp2_with fail
  refine Calls.mono (LA.out _) ?_
  rintro e w3 ⟨rfl, b3⟩
  have D3 : Hid (Boxes w a b w3) := D2.out.step b3
  clear b3 D2
  have p20 := D3.out.c0; have p21 := D3.out.c1; have p22 := D3.out.c2; have p23 := D3.out.c3
  clear p10 p11 p12 p13
  go_wp2_with fail
  refine Calls.mono (LB.out _) ?_
  rintro e w4 ⟨rfl, b4⟩
  have D4 : Hid (Boxes w a b w4) := D3.out.step b4
  clear b4 D3
  have p30 := D4.out.c0; have p31 := D4.out.c1; have p32 := D4.out.c2; have p33 := D4.out.c3
  clear p20 p21 p22 p23
  go_wp2_with fail
  refine Calls.mono (KA.out _) ?_
  rintro e w5 ⟨rfl, b5⟩
  have D5 : Hid (Boxes w a b w5) := D4.out.step b5
  clear b5 D4
  have p42 := D5.out.c2; have p43 := D5.out.c3
  clear p30 p31 p32 p33
  go_wp2_with fail
  refine Calls.mono (KB.out _) ?_
  rintro e w6 ⟨rfl, b6⟩
  have D6 : Hid (Boxes w a b w6) := D5.out.step b6
  clear b6 D5
  go_wp2
  go_ret
  exact ⟨rfl, D6.out.below⟩

set_option maxRecDepth 100000 in
set_option maxHeartbeats 2000000 in
theorem go_ltn1 (a b : Pr) (w : World) (X Y : List UInt8) (f : Int) (CM : Hid (∀ w, Calls Try.prog 16 #[.agg #[.int .i64 a.1, .int .i64 a.2], .agg #[.int .i64 b.1, .int .i64 b.2]] w fun e w' => e = .returned (.int .i64 (-1)) ∧ Below w.heap.size w w'))
    (LA : Hid (∀ w, Calls Try.prog 17 #[.agg #[.int .i64 a.1, .int .i64 a.2], .agg #[.int .i64 b.1, .int .i64 b.2]] w fun e w' => e = .returned (.bool true) ∧ Below w.heap.size w w'))
    (LB : Hid (∀ w, Calls Try.prog 17 #[.agg #[.int .i64 b.1, .int .i64 b.2], .agg #[.int .i64 a.1, .int .i64 a.2]] w fun e w' => e = .returned (.bool false) ∧ Below w.heap.size w w'))
    (KA : Hid (∀ w, Calls Try.prog 13 #[.int .i64 a.1, .int .i64 a.2] w fun e w' => e = .returned (.tuple #[.string ⟨X.toArray⟩, .int .i64 30]) ∧ Below w.heap.size w w'))
    (KB : Hid (∀ w, Calls Try.prog 13 #[.int .i64 b.1, .int .i64 b.2] w fun e w' => e = .returned (.tuple #[.string ⟨Y.toArray⟩, .int .i64 f]) ∧ Below w.heap.size w w'))
    :
    Calls Try.prog 5 #[.agg #[.int .i64 a.1, .int .i64 a.2], .agg #[.int .i64 b.1, .int .i64 b.2]] w fun e w' => e = .returned (.bool true) ∧ Below w.heap.size w w' := by
  have D0 : Hid (Boxes w a b ((w.alloc (.cells #[.int .i64 a.1, .int .i64 a.2] 25)).alloc (.cells #[.int .i64 b.1, .int .i64 b.2] 25))) := Boxes.made w a b
  go_enter Try.func5, Try.ntmps5
  go_wp2_with fail
  generalize (w.alloc (.cells #[.int .i64 a.1, .int .i64 a.2] 25)).alloc (.cells #[.int .i64 b.1, .int .i64 b.2] 25) = w0 at D0 ⊢
  refine Calls.mono (works_any _) ?_
  rintro e w1 ⟨rfl, b1⟩
  have D1 : Hid (Boxes w a b w1) := D0.out.step b1
  clear b1 D0
  have p00 := D1.out.c0; have p01 := D1.out.c1; have p02 := D1.out.c2; have p03 := D1.out.c3
  go_wp2_with fail
  refine Calls.mono (CM.out _) ?_
  rintro e w2 ⟨rfl, b2⟩
  have D2 : Hid (Boxes w a b w2) := D1.out.step b2
  clear b2 D1
  have p10 := D2.out.c0; have p11 := D2.out.c1; have p12 := D2.out.c2; have p13 := D2.out.c3
  clear p00 p01 p02 p03
  go_wp2_with fail
  refine Calls.mono (LA.out _) ?_
  rintro e w3 ⟨rfl, b3⟩
  have D3 : Hid (Boxes w a b w3) := D2.out.step b3
  clear b3 D2
  have p20 := D3.out.c0; have p21 := D3.out.c1; have p22 := D3.out.c2; have p23 := D3.out.c3
  clear p10 p11 p12 p13
  go_wp2_with fail
  refine Calls.mono (LB.out _) ?_
  rintro e w4 ⟨rfl, b4⟩
  have D4 : Hid (Boxes w a b w4) := D3.out.step b4
  clear b4 D3
  have p30 := D4.out.c0; have p31 := D4.out.c1; have p32 := D4.out.c2; have p33 := D4.out.c3
  clear p20 p21 p22 p23
  go_wp2_with fail
  refine Calls.mono (KA.out _) ?_
  rintro e w5 ⟨rfl, b5⟩
  have D5 : Hid (Boxes w a b w5) := D4.out.step b5
  clear b5 D4
  have p42 := D5.out.c2; have p43 := D5.out.c3
  clear p30 p31 p32 p33
  go_wp2_with fail
  refine Calls.mono (KB.out _) ?_
  rintro e w6 ⟨rfl, b6⟩
  have D6 : Hid (Boxes w a b w6) := D5.out.step b6
  clear b6 D5
  go_wp2
  go_ret
  exact ⟨rfl, D6.out.below⟩

set_option maxRecDepth 100000 in
set_option maxHeartbeats 2000000 in
theorem go_ltn2 (a b : Pr) (w : World) (X Y : List UInt8) (CM : Hid (∀ w, Calls Try.prog 16 #[.agg #[.int .i64 a.1, .int .i64 a.2], .agg #[.int .i64 b.1, .int .i64 b.2]] w fun e w' => e = .returned (.int .i64 (-1)) ∧ Below w.heap.size w w'))
    (LA : Hid (∀ w, Calls Try.prog 17 #[.agg #[.int .i64 a.1, .int .i64 a.2], .agg #[.int .i64 b.1, .int .i64 b.2]] w fun e w' => e = .returned (.bool true) ∧ Below w.heap.size w w'))
    (LB : Hid (∀ w, Calls Try.prog 17 #[.agg #[.int .i64 b.1, .int .i64 b.2], .agg #[.int .i64 a.1, .int .i64 a.2]] w fun e w' => e = .returned (.bool false) ∧ Below w.heap.size w w'))
    (KA : Hid (∀ w, Calls Try.prog 13 #[.int .i64 a.1, .int .i64 a.2] w fun e w' => e = .returned (.tuple #[.string ⟨X.toArray⟩, .int .i64 0]) ∧ Below w.heap.size w w'))
    (KB : Hid (∀ w, Calls Try.prog 13 #[.int .i64 b.1, .int .i64 b.2] w fun e w' => e = .returned (.tuple #[.string ⟨Y.toArray⟩, .int .i64 30]) ∧ Below w.heap.size w w'))
    :
    Calls Try.prog 5 #[.agg #[.int .i64 a.1, .int .i64 a.2], .agg #[.int .i64 b.1, .int .i64 b.2]] w fun e w' => e = .returned (.bool true) ∧ Below w.heap.size w w' := by
  have D0 : Hid (Boxes w a b ((w.alloc (.cells #[.int .i64 a.1, .int .i64 a.2] 25)).alloc (.cells #[.int .i64 b.1, .int .i64 b.2] 25))) := Boxes.made w a b
  go_enter Try.func5, Try.ntmps5
  go_wp2_with fail
  generalize (w.alloc (.cells #[.int .i64 a.1, .int .i64 a.2] 25)).alloc (.cells #[.int .i64 b.1, .int .i64 b.2] 25) = w0 at D0 ⊢
  refine Calls.mono (works_any _) ?_
  rintro e w1 ⟨rfl, b1⟩
  have D1 : Hid (Boxes w a b w1) := D0.out.step b1
  clear b1 D0
  have p00 := D1.out.c0; have p01 := D1.out.c1; have p02 := D1.out.c2; have p03 := D1.out.c3
  go_wp2_with fail
  refine Calls.mono (CM.out _) ?_
  rintro e w2 ⟨rfl, b2⟩
  have D2 : Hid (Boxes w a b w2) := D1.out.step b2
  clear b2 D1
  have p10 := D2.out.c0; have p11 := D2.out.c1; have p12 := D2.out.c2; have p13 := D2.out.c3
  clear p00 p01 p02 p03
  go_wp2_with fail
  refine Calls.mono (LA.out _) ?_
  rintro e w3 ⟨rfl, b3⟩
  have D3 : Hid (Boxes w a b w3) := D2.out.step b3
  clear b3 D2
  have p20 := D3.out.c0; have p21 := D3.out.c1; have p22 := D3.out.c2; have p23 := D3.out.c3
  clear p10 p11 p12 p13
  go_wp2_with fail
  refine Calls.mono (LB.out _) ?_
  rintro e w4 ⟨rfl, b4⟩
  have D4 : Hid (Boxes w a b w4) := D3.out.step b4
  clear b4 D3
  have p30 := D4.out.c0; have p31 := D4.out.c1; have p32 := D4.out.c2; have p33 := D4.out.c3
  clear p20 p21 p22 p23
  go_wp2_with fail
  refine Calls.mono (KA.out _) ?_
  rintro e w5 ⟨rfl, b5⟩
  have D5 : Hid (Boxes w a b w5) := D4.out.step b5
  clear b5 D4
  have p42 := D5.out.c2; have p43 := D5.out.c3
  clear p30 p31 p32 p33
  go_wp2_with fail
  refine Calls.mono (KB.out _) ?_
  rintro e w6 ⟨rfl, b6⟩
  have D6 : Hid (Boxes w a b w6) := D5.out.step b6
  clear b6 D5
  go_wp2
  go_ret
  exact ⟨rfl, D6.out.below⟩

set_option maxRecDepth 100000 in
set_option maxHeartbeats 2000000 in
theorem go_eqok (a b : Pr) (w : World) (X Y : List UInt8) (L1 : Op.bytesLess X Y = false) (L2 : (X == Y) = true) (CM : Hid (∀ w, Calls Try.prog 16 #[.agg #[.int .i64 a.1, .int .i64 a.2], .agg #[.int .i64 b.1, .int .i64 b.2]] w fun e w' => e = .returned (.int .i64 0) ∧ Below w.heap.size w w'))
    (LA : Hid (∀ w, Calls Try.prog 17 #[.agg #[.int .i64 a.1, .int .i64 a.2], .agg #[.int .i64 b.1, .int .i64 b.2]] w fun e w' => e = .returned (.bool false) ∧ Below w.heap.size w w'))
    (LB : Hid (∀ w, Calls Try.prog 17 #[.agg #[.int .i64 b.1, .int .i64 b.2], .agg #[.int .i64 a.1, .int .i64 a.2]] w fun e w' => e = .returned (.bool false) ∧ Below w.heap.size w w'))
    (KA : Hid (∀ w, Calls Try.prog 13 #[.int .i64 a.1, .int .i64 a.2] w fun e w' => e = .returned (.tuple #[.string ⟨X.toArray⟩, .int .i64 0]) ∧ Below w.heap.size w w'))
    (KB : Hid (∀ w, Calls Try.prog 13 #[.int .i64 b.1, .int .i64 b.2] w fun e w' => e = .returned (.tuple #[.string ⟨Y.toArray⟩, .int .i64 0]) ∧ Below w.heap.size w w'))
    :
    Calls Try.prog 5 #[.agg #[.int .i64 a.1, .int .i64 a.2], .agg #[.int .i64 b.1, .int .i64 b.2]] w fun e w' => e = .returned (.bool true) ∧ Below w.heap.size w w' := by
  have D0 : Hid (Boxes w a b ((w.alloc (.cells #[.int .i64 a.1, .int .i64 a.2] 25)).alloc (.cells #[.int .i64 b.1, .int .i64 b.2] 25))) := Boxes.made w a b
  go_enter Try.func5, Try.ntmps5
  go_wp2_with fail
  generalize (w.alloc (.cells #[.int .i64 a.1, .int .i64 a.2] 25)).alloc (.cells #[.int .i64 b.1, .int .i64 b.2] 25) = w0 at D0 ⊢
  refine Calls.mono (works_any _) ?_
  rintro e w1 ⟨rfl, b1⟩
  have D1 : Hid (Boxes w a b w1) := D0.out.step b1
  clear b1 D0
  have p00 := D1.out.c0; have p01 := D1.out.c1; have p02 := D1.out.c2; have p03 := D1.out.c3
  go_wp2_with fail
  refine Calls.mono (CM.out _) ?_
  rintro e w2 ⟨rfl, b2⟩
  have D2 : Hid (Boxes w a b w2) := D1.out.step b2
  clear b2 D1
  have p10 := D2.out.c0; have p11 := D2.out.c1; have p12 := D2.out.c2; have p13 := D2.out.c3
  clear p00 p01 p02 p03
  go_wp2_with fail
  refine Calls.mono (LA.out _) ?_
  rintro e w3 ⟨rfl, b3⟩
  have D3 : Hid (Boxes w a b w3) := D2.out.step b3
  clear b3 D2
  have p20 := D3.out.c0; have p21 := D3.out.c1; have p22 := D3.out.c2; have p23 := D3.out.c3
  clear p10 p11 p12 p13
  go_wp2_with fail
  refine Calls.mono (LB.out _) ?_
  rintro e w4 ⟨rfl, b4⟩
  have D4 : Hid (Boxes w a b w4) := D3.out.step b4
  clear b4 D3
  have p30 := D4.out.c0; have p31 := D4.out.c1; have p32 := D4.out.c2; have p33 := D4.out.c3
  clear p20 p21 p22 p23
  go_wp2_with fail
  refine Calls.mono (KA.out _) ?_
  rintro e w5 ⟨rfl, b5⟩
  have D5 : Hid (Boxes w a b w5) := D4.out.step b5
  clear b5 D4
  have p42 := D5.out.c2; have p43 := D5.out.c3
  clear p30 p31 p32 p33
  go_wp2_with fail
  refine Calls.mono (KB.out _) ?_
  rintro e w6 ⟨rfl, b6⟩
  have D6 : Hid (Boxes w a b w6) := D5.out.step b6
  clear b6 D5
  go_wp2
  go_ret
  exact ⟨rfl, D6.out.below⟩

set_option maxRecDepth 100000 in
set_option maxHeartbeats 2000000 in
theorem go_eqn1 (a b : Pr) (w : World) (X Y : List UInt8) (f : Int) (CM : Hid (∀ w, Calls Try.prog 16 #[.agg #[.int .i64 a.1, .int .i64 a.2], .agg #[.int .i64 b.1, .int .i64 b.2]] w fun e w' => e = .returned (.int .i64 0) ∧ Below w.heap.size w w'))
    (LA : Hid (∀ w, Calls Try.prog 17 #[.agg #[.int .i64 a.1, .int .i64 a.2], .agg #[.int .i64 b.1, .int .i64 b.2]] w fun e w' => e = .returned (.bool false) ∧ Below w.heap.size w w'))
    (LB : Hid (∀ w, Calls Try.prog 17 #[.agg #[.int .i64 b.1, .int .i64 b.2], .agg #[.int .i64 a.1, .int .i64 a.2]] w fun e w' => e = .returned (.bool false) ∧ Below w.heap.size w w'))
    (KA : Hid (∀ w, Calls Try.prog 13 #[.int .i64 a.1, .int .i64 a.2] w fun e w' => e = .returned (.tuple #[.string ⟨X.toArray⟩, .int .i64 30]) ∧ Below w.heap.size w w'))
    (KB : Hid (∀ w, Calls Try.prog 13 #[.int .i64 b.1, .int .i64 b.2] w fun e w' => e = .returned (.tuple #[.string ⟨Y.toArray⟩, .int .i64 f]) ∧ Below w.heap.size w w'))
    :
    Calls Try.prog 5 #[.agg #[.int .i64 a.1, .int .i64 a.2], .agg #[.int .i64 b.1, .int .i64 b.2]] w fun e w' => e = .returned (.bool true) ∧ Below w.heap.size w w' := by
  have D0 : Hid (Boxes w a b ((w.alloc (.cells #[.int .i64 a.1, .int .i64 a.2] 25)).alloc (.cells #[.int .i64 b.1, .int .i64 b.2] 25))) := Boxes.made w a b
  go_enter Try.func5, Try.ntmps5
  go_wp2_with fail
  generalize (w.alloc (.cells #[.int .i64 a.1, .int .i64 a.2] 25)).alloc (.cells #[.int .i64 b.1, .int .i64 b.2] 25) = w0 at D0 ⊢
  refine Calls.mono (works_any _) ?_
  rintro e w1 ⟨rfl, b1⟩
  have D1 : Hid (Boxes w a b w1) := D0.out.step b1
  clear b1 D0
  have p00 := D1.out.c0; have p01 := D1.out.c1; have p02 := D1.out.c2; have p03 := D1.out.c3
  go_wp2_with fail
  refine Calls.mono (CM.out _) ?_
  rintro e w2 ⟨rfl, b2⟩
  have D2 : Hid (Boxes w a b w2) := D1.out.step b2
  clear b2 D1
  have p10 := D2.out.c0; have p11 := D2.out.c1; have p12 := D2.out.c2; have p13 := D2.out.c3
  clear p00 p01 p02 p03
  go_wp2_with fail
  refine Calls.mono (LA.out _) ?_
  rintro e w3 ⟨rfl, b3⟩
  have D3 : Hid (Boxes w a b w3) := D2.out.step b3
  clear b3 D2
  have p20 := D3.out.c0; have p21 := D3.out.c1; have p22 := D3.out.c2; have p23 := D3.out.c3
  clear p10 p11 p12 p13
  go_wp2_with fail
  refine Calls.mono (LB.out _) ?_
  rintro e w4 ⟨rfl, b4⟩
  have D4 : Hid (Boxes w a b w4) := D3.out.step b4
  clear b4 D3
  have p30 := D4.out.c0; have p31 := D4.out.c1; have p32 := D4.out.c2; have p33 := D4.out.c3
  clear p20 p21 p22 p23
  go_wp2_with fail
  refine Calls.mono (KA.out _) ?_
  rintro e w5 ⟨rfl, b5⟩
  have D5 : Hid (Boxes w a b w5) := D4.out.step b5
  clear b5 D4
  have p42 := D5.out.c2; have p43 := D5.out.c3
  clear p30 p31 p32 p33
  go_wp2_with fail
  refine Calls.mono (KB.out _) ?_
  rintro e w6 ⟨rfl, b6⟩
  have D6 : Hid (Boxes w a b w6) := D5.out.step b6
  clear b6 D5
  go_wp2
  go_ret
  exact ⟨rfl, D6.out.below⟩

set_option maxRecDepth 100000 in
set_option maxHeartbeats 2000000 in
theorem go_eqn2 (a b : Pr) (w : World) (X Y : List UInt8) (CM : Hid (∀ w, Calls Try.prog 16 #[.agg #[.int .i64 a.1, .int .i64 a.2], .agg #[.int .i64 b.1, .int .i64 b.2]] w fun e w' => e = .returned (.int .i64 0) ∧ Below w.heap.size w w'))
    (LA : Hid (∀ w, Calls Try.prog 17 #[.agg #[.int .i64 a.1, .int .i64 a.2], .agg #[.int .i64 b.1, .int .i64 b.2]] w fun e w' => e = .returned (.bool false) ∧ Below w.heap.size w w'))
    (LB : Hid (∀ w, Calls Try.prog 17 #[.agg #[.int .i64 b.1, .int .i64 b.2], .agg #[.int .i64 a.1, .int .i64 a.2]] w fun e w' => e = .returned (.bool false) ∧ Below w.heap.size w w'))
    (KA : Hid (∀ w, Calls Try.prog 13 #[.int .i64 a.1, .int .i64 a.2] w fun e w' => e = .returned (.tuple #[.string ⟨X.toArray⟩, .int .i64 0]) ∧ Below w.heap.size w w'))
    (KB : Hid (∀ w, Calls Try.prog 13 #[.int .i64 b.1, .int .i64 b.2] w fun e w' => e = .returned (.tuple #[.string ⟨Y.toArray⟩, .int .i64 30]) ∧ Below w.heap.size w w'))
    :
    Calls Try.prog 5 #[.agg #[.int .i64 a.1, .int .i64 a.2], .agg #[.int .i64 b.1, .int .i64 b.2]] w fun e w' => e = .returned (.bool true) ∧ Below w.heap.size w w' := by
  have D0 : Hid (Boxes w a b ((w.alloc (.cells #[.int .i64 a.1, .int .i64 a.2] 25)).alloc (.cells #[.int .i64 b.1, .int .i64 b.2] 25))) := Boxes.made w a b
  go_enter Try.func5, Try.ntmps5
  go_wp2_with fail
  generalize (w.alloc (.cells #[.int .i64 a.1, .int .i64 a.2] 25)).alloc (.cells #[.int .i64 b.1, .int .i64 b.2] 25) = w0 at D0 ⊢
  refine Calls.mono (works_any _) ?_
  rintro e w1 ⟨rfl, b1⟩
  have D1 : Hid (Boxes w a b w1) := D0.out.step b1
  clear b1 D0
  have p00 := D1.out.c0; have p01 := D1.out.c1; have p02 := D1.out.c2; have p03 := D1.out.c3
  go_wp2_with fail
  refine Calls.mono (CM.out _) ?_
  rintro e w2 ⟨rfl, b2⟩
  have D2 : Hid (Boxes w a b w2) := D1.out.step b2
  clear b2 D1
  have p10 := D2.out.c0; have p11 := D2.out.c1; have p12 := D2.out.c2; have p13 := D2.out.c3
  clear p00 p01 p02 p03
  go_wp2_with fail
  refine Calls.mono (LA.out _) ?_
  rintro e w3 ⟨rfl, b3⟩
  have D3 : Hid (Boxes w a b w3) := D2.out.step b3
  clear b3 D2
  have p20 := D3.out.c0; have p21 := D3.out.c1; have p22 := D3.out.c2; have p23 := D3.out.c3
  clear p10 p11 p12 p13
  go_wp2_with fail
  refine Calls.mono (LB.out _) ?_
  rintro e w4 ⟨rfl, b4⟩
  have D4 : Hid (Boxes w a b w4) := D3.out.step b4
  clear b4 D3
  have p30 := D4.out.c0; have p31 := D4.out.c1; have p32 := D4.out.c2; have p33 := D4.out.c3
  clear p20 p21 p22 p23
  go_wp2_with fail
  refine Calls.mono (KA.out _) ?_
  rintro e w5 ⟨rfl, b5⟩
  have D5 : Hid (Boxes w a b w5) := D4.out.step b5
  clear b5 D4
  have p42 := D5.out.c2; have p43 := D5.out.c3
  clear p30 p31 p32 p33
  go_wp2_with fail
  refine Calls.mono (KB.out _) ?_
  rintro e w6 ⟨rfl, b6⟩
  have D6 : Hid (Boxes w a b w6) := D5.out.step b6
  clear b6 D5
  go_wp2
  go_ret
  exact ⟨rfl, D6.out.below⟩

set_option maxRecDepth 100000 in
set_option maxHeartbeats 2000000 in
theorem go_gtok (a b : Pr) (w : World) (X Y : List UInt8) (L1 : Op.bytesLess X Y = false) (L2 : (X == Y) = false) (CM : Hid (∀ w, Calls Try.prog 16 #[.agg #[.int .i64 a.1, .int .i64 a.2], .agg #[.int .i64 b.1, .int .i64 b.2]] w fun e w' => e = .returned (.int .i64 1) ∧ Below w.heap.size w w'))
    (LA : Hid (∀ w, Calls Try.prog 17 #[.agg #[.int .i64 a.1, .int .i64 a.2], .agg #[.int .i64 b.1, .int .i64 b.2]] w fun e w' => e = .returned (.bool false) ∧ Below w.heap.size w w'))
    (LB : Hid (∀ w, Calls Try.prog 17 #[.agg #[.int .i64 b.1, .int .i64 b.2], .agg #[.int .i64 a.1, .int .i64 a.2]] w fun e w' => e = .returned (.bool true) ∧ Below w.heap.size w w'))
    (KA : Hid (∀ w, Calls Try.prog 13 #[.int .i64 a.1, .int .i64 a.2] w fun e w' => e = .returned (.tuple #[.string ⟨X.toArray⟩, .int .i64 0]) ∧ Below w.heap.size w w'))
    (KB : Hid (∀ w, Calls Try.prog 13 #[.int .i64 b.1, .int .i64 b.2] w fun e w' => e = .returned (.tuple #[.string ⟨Y.toArray⟩, .int .i64 0]) ∧ Below w.heap.size w w'))
    :
    Calls Try.prog 5 #[.agg #[.int .i64 a.1, .int .i64 a.2], .agg #[.int .i64 b.1, .int .i64 b.2]] w fun e w' => e = .returned (.bool true) ∧ Below w.heap.size w w' := by
  have D0 : Hid (Boxes w a b ((w.alloc (.cells #[.int .i64 a.1, .int .i64 a.2] 25)).alloc (.cells #[.int .i64 b.1, .int .i64 b.2] 25))) := Boxes.made w a b
  go_enter Try.func5, Try.ntmps5
  go_wp2_with fail
  generalize (w.alloc (.cells #[.int .i64 a.1, .int .i64 a.2] 25)).alloc (.cells #[.int .i64 b.1, .int .i64 b.2] 25) = w0 at D0 ⊢
  refine Calls.mono (works_any _) ?_
  rintro e w1 ⟨rfl, b1⟩
  have D1 : Hid (Boxes w a b w1) := D0.out.step b1
  clear b1 D0
  have p00 := D1.out.c0; have p01 := D1.out.c1; have p02 := D1.out.c2; have p03 := D1.out.c3
  go_wp2_with fail
  refine Calls.mono (CM.out _) ?_
  rintro e w2 ⟨rfl, b2⟩
  have D2 : Hid (Boxes w a b w2) := D1.out.step b2
  clear b2 D1
  have p10 := D2.out.c0; have p11 := D2.out.c1; have p12 := D2.out.c2; have p13 := D2.out.c3
  clear p00 p01 p02 p03
  go_wp2_with fail
  refine Calls.mono (LA.out _) ?_
  rintro e w3 ⟨rfl, b3⟩
  have D3 : Hid (Boxes w a b w3) := D2.out.step b3
  clear b3 D2
  have p20 := D3.out.c0; have p21 := D3.out.c1; have p22 := D3.out.c2; have p23 := D3.out.c3
  clear p10 p11 p12 p13
  go_wp2_with fail
  refine Calls.mono (LB.out _) ?_
  rintro e w4 ⟨rfl, b4⟩
  have D4 : Hid (Boxes w a b w4) := D3.out.step b4
  clear b4 D3
  have p30 := D4.out.c0; have p31 := D4.out.c1; have p32 := D4.out.c2; have p33 := D4.out.c3
  clear p20 p21 p22 p23
  go_wp2_with fail
  refine Calls.mono (KA.out _) ?_
  rintro e w5 ⟨rfl, b5⟩
  have D5 : Hid (Boxes w a b w5) := D4.out.step b5
  clear b5 D4
  have p42 := D5.out.c2; have p43 := D5.out.c3
  clear p30 p31 p32 p33
  go_wp2_with fail
  refine Calls.mono (KB.out _) ?_
  rintro e w6 ⟨rfl, b6⟩
  have D6 : Hid (Boxes w a b w6) := D5.out.step b6
  clear b6 D5
  go_wp2
  go_ret
  exact ⟨rfl, D6.out.below⟩

set_option maxRecDepth 100000 in
set_option maxHeartbeats 2000000 in
theorem go_gtn1 (a b : Pr) (w : World) (X Y : List UInt8) (f : Int) (CM : Hid (∀ w, Calls Try.prog 16 #[.agg #[.int .i64 a.1, .int .i64 a.2], .agg #[.int .i64 b.1, .int .i64 b.2]] w fun e w' => e = .returned (.int .i64 1) ∧ Below w.heap.size w w'))
    (LA : Hid (∀ w, Calls Try.prog 17 #[.agg #[.int .i64 a.1, .int .i64 a.2], .agg #[.int .i64 b.1, .int .i64 b.2]] w fun e w' => e = .returned (.bool false) ∧ Below w.heap.size w w'))
    (LB : Hid (∀ w, Calls Try.prog 17 #[.agg #[.int .i64 b.1, .int .i64 b.2], .agg #[.int .i64 a.1, .int .i64 a.2]] w fun e w' => e = .returned (.bool true) ∧ Below w.heap.size w w'))
    (KA : Hid (∀ w, Calls Try.prog 13 #[.int .i64 a.1, .int .i64 a.2] w fun e w' => e = .returned (.tuple #[.string ⟨X.toArray⟩, .int .i64 30]) ∧ Below w.heap.size w w'))
    (KB : Hid (∀ w, Calls Try.prog 13 #[.int .i64 b.1, .int .i64 b.2] w fun e w' => e = .returned (.tuple #[.string ⟨Y.toArray⟩, .int .i64 f]) ∧ Below w.heap.size w w'))
    :
    Calls Try.prog 5 #[.agg #[.int .i64 a.1, .int .i64 a.2], .agg #[.int .i64 b.1, .int .i64 b.2]] w fun e w' => e = .returned (.bool true) ∧ Below w.heap.size w w' := by
  have D0 : Hid (Boxes w a b ((w.alloc (.cells #[.int .i64 a.1, .int .i64 a.2] 25)).alloc (.cells #[.int .i64 b.1, .int .i64 b.2] 25))) := Boxes.made w a b
  go_enter Try.func5, Try.ntmps5
  go_wp2_with fail
  generalize (w.alloc (.cells #[.int .i64 a.1, .int .i64 a.2] 25)).alloc (.cells #[.int .i64 b.1, .int .i64 b.2] 25) = w0 at D0 ⊢
  refine Calls.mono (works_any _) ?_
  rintro e w1 ⟨rfl, b1⟩
  have D1 : Hid (Boxes w a b w1) := D0.out.step b1
  clear b1 D0
  have p00 := D1.out.c0; have p01 := D1.out.c1; have p02 := D1.out.c2; have p03 := D1.out.c3
  go_wp2_with fail
  refine Calls.mono (CM.out _) ?_
  rintro e w2 ⟨rfl, b2⟩
  have D2 : Hid (Boxes w a b w2) := D1.out.step b2
  clear b2 D1
  have p10 := D2.out.c0; have p11 := D2.out.c1; have p12 := D2.out.c2; have p13 := D2.out.c3
  clear p00 p01 p02 p03
  go_wp2_with fail
  refine Calls.mono (LA.out _) ?_
  rintro e w3 ⟨rfl, b3⟩
  have D3 : Hid (Boxes w a b w3) := D2.out.step b3
  clear b3 D2
  have p20 := D3.out.c0; have p21 := D3.out.c1; have p22 := D3.out.c2; have p23 := D3.out.c3
  clear p10 p11 p12 p13
  go_wp2_with fail
  refine Calls.mono (LB.out _) ?_
  rintro e w4 ⟨rfl, b4⟩
  have D4 : Hid (Boxes w a b w4) := D3.out.step b4
  clear b4 D3
  have p30 := D4.out.c0; have p31 := D4.out.c1; have p32 := D4.out.c2; have p33 := D4.out.c3
  clear p20 p21 p22 p23
  go_wp2_with fail
  refine Calls.mono (KA.out _) ?_
  rintro e w5 ⟨rfl, b5⟩
  have D5 : Hid (Boxes w a b w5) := D4.out.step b5
  clear b5 D4
  have p42 := D5.out.c2; have p43 := D5.out.c3
  clear p30 p31 p32 p33
  go_wp2_with fail
  refine Calls.mono (KB.out _) ?_
  rintro e w6 ⟨rfl, b6⟩
  have D6 : Hid (Boxes w a b w6) := D5.out.step b6
  clear b6 D5
  go_wp2
  go_ret
  exact ⟨rfl, D6.out.below⟩

set_option maxRecDepth 100000 in
set_option maxHeartbeats 2000000 in
theorem go_gtn2 (a b : Pr) (w : World) (X Y : List UInt8) (CM : Hid (∀ w, Calls Try.prog 16 #[.agg #[.int .i64 a.1, .int .i64 a.2], .agg #[.int .i64 b.1, .int .i64 b.2]] w fun e w' => e = .returned (.int .i64 1) ∧ Below w.heap.size w w'))
    (LA : Hid (∀ w, Calls Try.prog 17 #[.agg #[.int .i64 a.1, .int .i64 a.2], .agg #[.int .i64 b.1, .int .i64 b.2]] w fun e w' => e = .returned (.bool false) ∧ Below w.heap.size w w'))
    (LB : Hid (∀ w, Calls Try.prog 17 #[.agg #[.int .i64 b.1, .int .i64 b.2], .agg #[.int .i64 a.1, .int .i64 a.2]] w fun e w' => e = .returned (.bool true) ∧ Below w.heap.size w w'))
    (KA : Hid (∀ w, Calls Try.prog 13 #[.int .i64 a.1, .int .i64 a.2] w fun e w' => e = .returned (.tuple #[.string ⟨X.toArray⟩, .int .i64 0]) ∧ Below w.heap.size w w'))
    (KB : Hid (∀ w, Calls Try.prog 13 #[.int .i64 b.1, .int .i64 b.2] w fun e w' => e = .returned (.tuple #[.string ⟨Y.toArray⟩, .int .i64 30]) ∧ Below w.heap.size w w'))
    :
    Calls Try.prog 5 #[.agg #[.int .i64 a.1, .int .i64 a.2], .agg #[.int .i64 b.1, .int .i64 b.2]] w fun e w' => e = .returned (.bool true) ∧ Below w.heap.size w w' := by
  have D0 : Hid (Boxes w a b ((w.alloc (.cells #[.int .i64 a.1, .int .i64 a.2] 25)).alloc (.cells #[.int .i64 b.1, .int .i64 b.2] 25))) := Boxes.made w a b
  go_enter Try.func5, Try.ntmps5
  go_wp2_with fail
  generalize (w.alloc (.cells #[.int .i64 a.1, .int .i64 a.2] 25)).alloc (.cells #[.int .i64 b.1, .int .i64 b.2] 25) = w0 at D0 ⊢
  refine Calls.mono (works_any _) ?_
  rintro e w1 ⟨rfl, b1⟩
  have D1 : Hid (Boxes w a b w1) := D0.out.step b1
  clear b1 D0
  have p00 := D1.out.c0; have p01 := D1.out.c1; have p02 := D1.out.c2; have p03 := D1.out.c3
  go_wp2_with fail
  refine Calls.mono (CM.out _) ?_
  rintro e w2 ⟨rfl, b2⟩
  have D2 : Hid (Boxes w a b w2) := D1.out.step b2
  clear b2 D1
  have p10 := D2.out.c0; have p11 := D2.out.c1; have p12 := D2.out.c2; have p13 := D2.out.c3
  clear p00 p01 p02 p03
  go_wp2_with fail
  refine Calls.mono (LA.out _) ?_
  rintro e w3 ⟨rfl, b3⟩
  have D3 : Hid (Boxes w a b w3) := D2.out.step b3
  clear b3 D2
  have p20 := D3.out.c0; have p21 := D3.out.c1; have p22 := D3.out.c2; have p23 := D3.out.c3
  clear p10 p11 p12 p13
  go_wp2_with fail
  refine Calls.mono (LB.out _) ?_
  rintro e w4 ⟨rfl, b4⟩
  have D4 : Hid (Boxes w a b w4) := D3.out.step b4
  clear b4 D3
  have p30 := D4.out.c0; have p31 := D4.out.c1; have p32 := D4.out.c2; have p33 := D4.out.c3
  clear p20 p21 p22 p23
  go_wp2_with fail
  refine Calls.mono (KA.out _) ?_
  rintro e w5 ⟨rfl, b5⟩
  have D5 : Hid (Boxes w a b w5) := D4.out.step b5
  clear b5 D4
  have p42 := D5.out.c2; have p43 := D5.out.c3
  clear p30 p31 p32 p33
  go_wp2_with fail
  refine Calls.mono (KB.out _) ?_
  rintro e w6 ⟨rfl, b6⟩
  have D6 : Hid (Boxes w a b w6) := D5.out.step b6
  clear b6 D5
  go_wp2
  go_ret
  exact ⟨rfl, D6.out.below⟩

theorem walk (a b : Pr) (w : World) : Calls Try.prog 5 #[.agg #[.int .i64 a.1, .int .i64 a.2], .agg #[.int .i64 b.1, .int .i64 b.2]] w fun e w' => e = .returned (.bool true) ∧ Below w.heap.size w w' := by
  have CM : ∀ w, Calls Try.prog 16 #[.agg #[.int .i64 a.1, .int .i64 a.2], .agg #[.int .i64 b.1, .int .i64 b.2]] w fun e w' => e = .returned (.int .i64 (cfP a b)) ∧ Below w.heap.size w w' := fun w => (cmp_any a b w).mono fun e w' h => ⟨h.1, GR.below h.2⟩
  have LA : ∀ w, Calls Try.prog 17 #[.agg #[.int .i64 a.1, .int .i64 a.2], .agg #[.int .i64 b.1, .int .i64 b.2]] w fun e w' => e = .returned (.bool (ltP a b)) ∧ Below w.heap.size w w' := fun w => (less_any a b w).mono fun e w' h => ⟨h.1, GR.below h.2⟩
  have LB : ∀ w, Calls Try.prog 17 #[.agg #[.int .i64 b.1, .int .i64 b.2], .agg #[.int .i64 a.1, .int .i64 a.2]] w fun e w' => e = .returned (.bool (ltP b a)) ∧ Below w.heap.size w w' := fun w => (less_any b a w).mono fun e w' h => ⟨h.1, GR.below h.2⟩
  have KA : ∀ w, Calls Try.prog 13 #[.int .i64 a.1, .int .i64 a.2] w fun e w' => e = .returned (.tuple #[.string ⟨(keyS a.1 a.2).toArray⟩, .int .i64 (keyE a.1 a.2)]) ∧ Below w.heap.size w w' := fun w => key_any a.1 a.2 w
  have KB : ∀ w, Calls Try.prog 13 #[.int .i64 b.1, .int .i64 b.2] w fun e w' => e = .returned (.tuple #[.string ⟨(keyS b.1 b.2).toArray⟩, .int .i64 (keyE b.1 b.2)]) ∧ Below w.heap.size w w' := fun w => key_any b.1 b.2 w
  have hk : ∀ p : Pr, (keyE p.1 p.2 = 0 ∧ vtx p.1 = true ∧ vtx p.2 = true) ∨ keyE p.1 p.2 = 30 := fun p => by
    unfold keyE
    by_cases h : (vtx p.1 && vtx p.2) = true
    · rw [if_pos h]; exact Or.inl ⟨rfl, Bool.and_eq_true_iff.1 h⟩
    · rw [if_neg h]; exact Or.inr rfl
  have hL : keyE a.1 a.2 = 0 ∧ vtx a.1 = true ∧ vtx a.2 = true → keyE b.1 b.2 = 0 ∧ vtx b.1 = true ∧ vtx b.2 = true → _ := fun h k => key_less (a := a) (b := b) h.2.1 h.2.2 k.2.1 k.2.2
  rcases cfP_cases a b with ⟨hl, hc⟩ | ⟨hl, hc⟩ | ⟨hl, hc⟩
  · have ea := hl
    have eb := ltP_asymm hl
    rw [hc] at CM
    rw [ea] at LA
    rw [eb] at LB
    rcases hk a with ha | ha
    · rw [ha.1] at KA
      rcases hk b with hb | hb
      · rw [hb.1] at KB
        have := hL ha hb
        rw [ea, decide_eq_false (fun e => by rw [e, ltP_irrefl] at hl; cases hl)] at this
        exact go_ltok a b w _ _ this.1 this.2 CM LA LB KA KB
      · rw [hb] at KB
        exact go_ltn2 a b w _ _ CM LA LB KA KB
    · rw [ha] at KA
      exact go_ltn1 a b w _ _ _ CM LA LB KA KB
  · have ea : ltP a b = false := by rw [hl]; exact ltP_irrefl _
    have eb : ltP b a = false := by rw [hl]; exact ltP_irrefl _
    rw [hc] at CM
    rw [ea] at LA
    rw [eb] at LB
    rcases hk a with ha | ha
    · rw [ha.1] at KA
      rcases hk b with hb | hb
      · rw [hb.1] at KB
        have := hL ha hb
        rw [ea, decide_eq_true hl] at this
        exact go_eqok a b w _ _ this.1 this.2 CM LA LB KA KB
      · rw [hb] at KB
        exact go_eqn2 a b w _ _ CM LA LB KA KB
    · rw [ha] at KA
      exact go_eqn1 a b w _ _ _ CM LA LB KA KB
  · have ea := ltP_asymm hl
    have eb := hl
    rw [hc] at CM
    rw [ea] at LA
    rw [eb] at LB
    rcases hk a with ha | ha
    · rw [ha.1] at KA
      rcases hk b with hb | hb
      · rw [hb.1] at KB
        have := hL ha hb
        rw [ea, decide_eq_false (fun e => by rw [e, ltP_irrefl] at hl; cases hl)] at this
        exact go_gtok a b w _ _ this.1 this.2 CM LA LB KA KB
      · rw [hb] at KB
        exact go_gtn2 a b w _ _ CM LA LB KA KB
    · rw [ha] at KA
      exact go_gtn1 a b w _ _ _ CM LA LB KA KB
end edgeOrders
end Go.Proofs.Ytifeeneojlhffaa

/-
  slices.Compact at []api.Pair and slices.CompactFunc at []api.Change: the walks, over any program that bears their bodies.
-/
import Derived.Test.YtifeeneojlhffaaCptPlain
import Derived.Test.YtifeeneojlhffaaProg
import Derived.Sort.WalkB2
import Derived.Sort.WalkB12
import Derived.Deep.LoopGhost
import Derived.Lib.Walk
namespace Go.Proofs.Ytifeeneojlhffaa
open Go.Shelf Go.RowKit Go.Lib Go.Sort
variable {P : Program} {α : Type} [Inhabited α]

structure CpP (P : Program) : Prop where
  mixed : P.follows .mixedOrders = true
  fC : P.funcs[39]? = some Try.f39
  fCF : P.funcs[62]? = some Try.f62
  t0 : P.underlying 0 = some (TypeDesc.tuple #[])
  a0 : ∀ w, (isAgg 0).run P w = .ok false w
  z0 : ∀ w, (Go.sizeOf 0).run P w = .ok 1 w
  v0 : ∀ w, (zeroValue 0).run P w = .ok (Value.tuple #[]) w
  t3 : P.underlying 3 = some (TypeDesc.int IntKind.i64)
  a3 : ∀ w, (isAgg 3).run P w = .ok false w
  z3 : ∀ w, (Go.sizeOf 3).run P w = .ok 1 w
  v3 : ∀ w, (zeroValue 3).run P w = .ok (Value.int IntKind.i64 0) w
  t4 : P.underlying 4 = some TypeDesc.bool
  a4 : ∀ w, (isAgg 4).run P w = .ok false w
  z4 : ∀ w, (Go.sizeOf 4).run P w = .ok 1 w
  v4 : ∀ w, (zeroValue 4).run P w = .ok (Value.bool false) w
  tP : P.underlying 39 = some (TypeDesc.slice 25)
  aP : ∀ w, (isAgg 39).run P w = .ok false w
  zP : ∀ w, (Go.sizeOf 39).run P w = .ok 1 w
  vP : ∀ w, (zeroValue 39).run P w = .ok (Value.slice none 0 0) w
  tS : P.underlying 40 = some (TypeDesc.slice 50)
  aS : ∀ w, (isAgg 40).run P w = .ok false w
  zS : ∀ w, (Go.sizeOf 40).run P w = .ok 1 w
  vS : ∀ w, (zeroValue 40).run P w = .ok (Value.slice none 0 0) w
  tF : P.underlying 82 = some (TypeDesc.func #[50, 50] #[4] false)
  aF : ∀ w, (isAgg 82).run P w = .ok false w
  zF : ∀ w, (Go.sizeOf 82).run P w = .ok 1 w
  vF : ∀ w, (zeroValue 82).run P w = .ok Value.nilFunc w

/-- What is left of the row: the cells of the cut slice, and nothing below the row's block has turned. -/
def CutTo (enc : α → List Value) (k : Nat) (w0 : World) (blk off cap : Nat) (u : List α) (e : Ending) (w' : World) : Prop :=
  e = .returned (.slice (some ⟨blk, off, none⟩) u.length cap) ∧ HoldsK enc k w' blk off u.toArray ∧ blk < w'.heap.size ∧ ∀ B, B ≤ blk → B ≤ w0.heap.size → Below B w0 w'

theorem cut_whole {enc : α → List Value} {k : Nat} {w0 W : World} {blk off cap : Nat} {d0 d : Array α} {eq : α → α → Bool} (S : SWK enc k w0 blk off d W) (R : RowK enc k w0 blk off d0) (hs : d.size = d0.size) (hall : ∀ j, j < d.size → kp eq d j = true) :
    CutTo enc k w0 blk off cap (uniq eq d.toList) (.returned (.slice (some ⟨blk, off, none⟩) d.size cap)) W := by
  have e : uniq eq d.toList = d.toList := by rw [← cpt_uniq, cpt_all _ _ _ hall, range_get]
  rw [e]
  exact ⟨by simp, by simpa using S.holds R.hblk R.hH hs, S.lt R.hblk, fun B h1 h2 => swk_below S h1 h2⟩

theorem size_zeroCells (z : Array Value) (n : Nat) : (Builtin.zeroCells z n).toList.length = n * z.size := by simp [Builtin.zeroCells]

theorem mem_zeroCells {z : Array Value} {n : Nat} {v : Value} (h : v ∈ (Builtin.zeroCells z n).toList) (hz : 0 < z.size) : v ∈ z := by
  simp only [Builtin.zeroCells, Array.toList_map, List.mem_map] at h
  obtain ⟨t, _, rfl⟩ := h
  rw [getElem!_pos z _ (Nat.mod_lt _ hz)]
  exact Array.getElem_mem _

set_option maxHeartbeats 8000000 in
set_option maxRecDepth 1000000 in
theorem compact_any (L : CpP P) (k : Nat) (aE : ∀ w, (isAgg 25).run P w = .ok true w) (zE : ∀ w, (Go.sizeOf 25).run P w = .ok k w) (enc : α → List Value) (eq : α → α → Bool)
    (heq : ∀ (x y : α) (w : World), Sem.run P (binOp .eql 25 (.agg (enc x).toArray) (.agg (enc y).toArray)) w = .ok (.bool (eq x y)) w) (hne : ∀ (x y : α) (w : World), Sem.run P (binOp .neq 25 (.agg (enc x).toArray) (.agg (enc y).toArray)) w = .ok (.bool (!eq x y)) w)
    (hgd : ∀ (op : BinOp) (a b : Operand) (x y : α) (w : World), Sem.run P (eqGuard op 25 a b (.agg (enc x).toArray) (.agg (enc y).toArray)) w = .ok () w)
    (z : Array Value) (hz : ∀ w, (zeroValue 25).run P w = .ok (.agg z) w) (hzs : z.size = k) (hz1 : ∀ v ∈ z, v.oneCell' = true) (hk0 : 0 < k)
    (blk off cap : Nat) (d0 d : Array α) (w0 w : World) (R : RowK enc k w0 blk off d0) (hs : d0.size = d.size) (S : SWK enc k w0 blk off d w) (hsz : d.size < 4611686018427387904) (hcap : d.size ≤ cap) (_hmax : d.size * k < 4611686018427387904) :
    Calls P 39 #[.slice (some ⟨blk, off, none⟩) d.size cap] w (CutTo enc k w0 blk off cap (uniq eq d.toList)) := by
  have mixed := L.mixed; have t0 := L.t0; have a0 := L.a0; have z0 := L.z0; have v0 := L.v0; have t3 := L.t3; have a3 := L.a3; have z3 := L.z3; have v3 := L.v3; have t4 := L.t4; have a4 := L.a4; have z4 := L.z4; have v4 := L.v4; have tP := L.tP; have aP := L.aP; have zP := L.zP; have vP := L.vP
  have uP := run_underlying L.tP
  have S0 : Aside (SWK enc k w0 blk off d w) := S
  have HW : Aside (∀ W, SWK enc k w0 blk off d W → (∀ j, j < d.size → kp eq d j = true) → CutTo enc k w0 blk off cap (uniq eq d.toList) (.returned (.slice (some ⟨blk, off, none⟩) d.size cap)) W) := fun W hW hall => cut_whole hW R hs.symm hall
  clear S
  by_cases h2 : d.size < 2
  · have h2z : (d.size : Int) < 2 := by omega
    go_enter L.fC, Try.ntmps39
    go_wp2
    go_ret
    refine HW.out _ S0.out fun j hj => ?_
    obtain rfl : j = 0 := by omega
    rfl
  · have h2z : ¬ (d.size : Int) < 2 := by omega
    go_enter L.fC, Try.ntmps39
    clear L
    go_wp2
    go_loopg [3] d.size (fun gk s3 wr => ∃ kk : Nat, 1 ≤ kk ∧ kk ≤ d.size ∧ d.size - kk ≤ gk ∧ s3 = .int .i64 kk ∧ Aside (SWK enc k w0 blk off d wr) ∧ Hid (∀ j, j < kk → kp eq d j = true))
    case atStart => exact ⟨1, Nat.le_refl _, by omega, by omega, rfl, S0, fun j hj => (show j = 0 by omega) ▸ rfl⟩
    case round =>
      clear S0
      obtain ⟨kk, hk1, hkd, hg, rfl, S1, HA⟩ := hrel
      by_cases hlt : kk < d.size
      · have hltz : (kk : Int) < (d.size : Int) := by omega
        obtain ⟨p, hp⟩ : ∃ p, kk = p + 1 := ⟨kk - 1, by omega⟩
        subst hp
        obtain ⟨x, hx⟩ : ∃ x, d[p + 1]! = x := ⟨_, rfl⟩
        obtain ⟨y, hy⟩ : ∃ y, d[p]! = y := ⟨_, rfl⟩
        have lx := fun n' os' => S1.out.ld R (by omega) P (p + 1) (by omega) n' os'
        have ly := fun n' os' => S1.out.ld R (by omega) P p (by omega) n' os'
        rw [hx] at lx
        rw [hy] at ly
        have XY : Hid (d[p + 1]! = x ∧ d[p]! = y) := ⟨hx, hy⟩
        clear hx hy
        have p1 : (0 : Int) ≤ (p : Int) + 1 := by omega
        have p2 : (p : Int) + 1 < (d.size : Int) := by omega
        have p3 : ((p : Int) + 1).toNat = p + 1 := by omega
        have p4 : (0 : Int) ≤ (p : Int) := by omega
        have p5 : (p : Int) < (d.size : Int) := by omega
        have p6 : IntKind.i64.wrap (p : Int) = (p : Int) := by rw [IntKind.wrap_i64]; omega
        obtain ⟨f, hf⟩ : ∃ f, eq x y = f := ⟨_, rfl⟩
        have heq1 : ∀ w, Sem.run P (binOp .eql 25 (.agg (enc x).toArray) (.agg (enc y).toArray)) w = .ok (.bool f) w := fun w => by rw [heq, hf]
        have hgd1 := fun op a b w => hgd op a b x y w
        have HF : Hid (eq x y = f) := hf
        clear hf
        generalize enc x = cx at *
        generalize enc y = cy at *
        cases f with
        | false =>
          go_wp2_with fail
          go_quiet_grown (fail)
          have S2 : Aside (SWK enc k w0 blk off d (grow (wr.drewN nq) osq)) := S1.out.grown nq osq
          clear S1 lx ly heq1 hgd1
          generalize grow (wr.drewN nq) osq = w2 at S2 ⊢
          go_wp2
          go_roundg (d.size - (p + 1 + 1))
          case measure => omega
          case rel =>
            refine ⟨p + 1 + 1, by omega, by omega, Nat.le_refl _, by go_num, S2, ?_⟩
            show ∀ j, j < p + 1 + 1 → kp eq d j = true
            intro j hj
            by_cases e : j = p + 1
            · subst e
              unfold kp
              rw [Nat.add_sub_cancel, XY.out.1, XY.out.2, HF.out]
              simp
            · exact HA.out j (by omega)
        | true =>
          go_wp2_with fail
          go_quiet_grown (fail)
          have S2 : Aside (SWK enc k w0 blk off d (grow (wr.drewN nq) osq)) := S1.out.grown nq osq
          clear S1 lx ly heq1 hgd1
          generalize grow (wr.drewN nq) osq = w2 at S2 ⊢
          have HI : Aside (CInv eq d (p + 1 + 1) (p + 1) d) := CInv.start HA.out (by unfold kp; rw [Nat.add_sub_cancel, XY.out.1, XY.out.2, HF.out]; simp)
          clear HA XY HF
          go_wp2
          go_loopg [3, 5] d.size (fun gk sA sB wr => ∃ (q k2 : Nat) (dk : Array α), sA = .int .i64 q ∧ sB = .int .i64 k2 ∧ 1 ≤ k2 ∧ p + 1 + k2 ≤ d.size ∧ d.size - (p + 1 + k2) ≤ gk ∧ dk.size = d.size ∧ Aside (SWK enc k w0 blk off dk wr) ∧ Aside (CInv eq d (p + 1 + k2) q dk))
          case atStart => exact ⟨p + 1, 1, d, by go_num, rfl, Nat.le_refl _, by omega, by omega, rfl, S2, HI⟩
          case round =>
            clear S2 HI
            obtain ⟨q, k2, dk, rfl, rfl, hk2, hle, hg2, hds, S1, HI⟩ := hrel
            have hq := HI.out.lt
            by_cases hlt2 : p + 1 + k2 < d.size
            · obtain ⟨r, hr⟩ : ∃ r, k2 = r + 1 := ⟨k2 - 1, by omega⟩
              subst hr
              obtain ⟨u, hu⟩ : ∃ u, dk[p + 1 + (r + 1)]! = u := ⟨_, rfl⟩
              obtain ⟨v, hv⟩ : ∃ v, dk[p + 1 + r]! = v := ⟨_, rfl⟩
              have hud : d[p + 1 + (r + 1)]! = u := by rw [← HI.out.high _ (by omega)]; exact hu
              have hvd : d[p + 1 + (r + 1) - 1]! = v := by rw [← HI.out.high _ (by omega)]; exact hv
              have lu := fun n' os' => S1.out.ld R (by omega) P (p + 1 + (r + 1)) (by omega) n' os'
              have lv := fun n' os' => S1.out.ld R (by omega) P (p + 1 + r) (by omega) n' os'
              rw [hu, show off + (p + 1 + (r + 1)) * k = off + (p + 1) * k + (r + 1) * k by rw [Nat.add_mul (p + 1), Nat.add_assoc]] at lu
              rw [hv, show off + (p + 1 + r) * k = off + (p + 1) * k + r * k by rw [Nat.add_mul (p + 1), Nat.add_assoc]] at lv
              have UV : Hid (d[p + 1 + (r + 1)]! = u ∧ d[p + 1 + (r + 1) - 1]! = v ∧ dk[p + 1 + (r + 1)]! = u) := ⟨hud, hvd, hu⟩
              clear hu hv hud hvd
              have r1 : (0 : Int) ≤ (r : Int) + 1 := by omega
              have r2 : (r : Int) + 1 < ((d.size - (p + 1) : Nat) : Int) := by omega
              have r3 : ((r : Int) + 1).toNat = r + 1 := by omega
              have r4 : (0 : Int) ≤ (r : Int) := by omega
              have r5 : (r : Int) < ((d.size - (p + 1) : Nat) : Int) := by omega
              have r6 : IntKind.i64.wrap (r : Int) = (r : Int) := by rw [IntKind.wrap_i64]; omega
              have q1 : (0 : Int) ≤ (q : Int) := by omega
              have q2 : (q : Int) < (d.size : Int) := by omega
              obtain ⟨f, hf⟩ : ∃ f, eq u v = f := ⟨_, rfl⟩
              have heq1 : ∀ w, Sem.run P (binOp .neq 25 (.agg (enc u).toArray) (.agg (enc v).toArray)) w = .ok (.bool (!f)) w := fun w => by rw [hne, hf]
              have hgd1 := fun op a b w => hgd op a b u v w
              have HF : Hid (eq u v = f) := hf
              clear hf
              obtain ⟨cu, hcu⟩ : ∃ c, enc u = c := ⟨_, rfl⟩
              obtain ⟨cv, hcv⟩ : ∃ c, enc v = c := ⟨_, rfl⟩
              rw [hcu] at lu
              rw [hcv] at lv
              rw [hcu, hcv] at heq1 hgd1
              have HCU : Hid (enc u = cu) := hcu
              have ncu : cu.length = k := by rw [← hcu]; exact R.hk _
              clear hcu hcv
              cases f with
              | true =>
                go_wp2_with fail
                go_quiet_grown (fail)
                have S2 : Aside (SWK enc k w0 blk off dk (grow (wr.drewN nq) osq)) := S1.out.grown nq osq
                clear S1 lu lv heq1 hgd1
                generalize grow (wr.drewN nq) osq = w2 at S2 ⊢
                go_wp2
                go_roundg (d.size - (p + 1 + (r + 1 + 1)))
                case measure => omega
                case rel => exact ⟨q, r + 1 + 1, dk, rfl, by go_num, by omega, by omega, Nat.le_refl _, hds, S2, HI.out.skip (by unfold kp; rw [UV.out.1, UV.out.2.1, HF.out]; simp)⟩
              | false =>
                go_wp2_with fail
                go_quiet_grown (fail)
                have S2 : Aside (SWK enc k w0 blk off dk (grow (wr.drewN nq) osq)) := S1.out.grown nq osq
                clear S1 lu lv heq1 hgd1
                generalize grow (wr.drewN nq) osq = w2 at S2 ⊢
                have lw := S2.out.load R (by omega) P (p + 1 + (r + 1)) (by omega)
                rw [UV.out.2.2, HCU.out, show off + (p + 1 + (r + 1)) * k = off + (p + 1) * k + (r + 1) * k by rw [Nat.add_mul (p + 1), Nat.add_assoc]] at lw
                have st := swk_stp S2.out R (by omega) P q (by omega) u
                have S3 : Aside (SWK enc k w0 blk off (dk.setIfInBounds q u) (w2.setCells blk (off + q * k) (enc u))) := swk_put S2.out R q (by omega) u
                rw [HCU.out] at st S3
                clear S2
                go_wp2_with fail
                clear lw st
                generalize w2.setCells blk (off + q * k) cu = w3 at S3 ⊢
                go_wp2
                go_roundg (d.size - (p + 1 + (r + 1 + 1)))
                case measure => omega
                case rel =>
                  have hI2 := HI.out.keep hlt2 (by unfold kp; rw [UV.out.1, UV.out.2.1, HF.out]; simp)
                  rw [UV.out.1] at hI2
                  exact ⟨q + 1, r + 1 + 1, dk.setIfInBounds q u, by go_num, by go_num, by omega, by omega, Nat.le_refl _, by simp [hds], S3, hI2⟩
            · have hend : p + 1 + k2 = d.size := by omega
              have hH : HoldsK enc k wr blk off dk := S1.out.holds R.hblk R.hH (by omega)
              have hmul : q * k + (d.size - q) * k = d.size * k := by rw [← Nat.add_mul, Nat.add_sub_cancel' (by omega)]
              have hcl : ∀ ty, (Builtin.clear_ #[39] ty #[.slice (some ⟨blk, off + q * k, none⟩) (d.size - q) (cap - q)]).run P wr = .ok (.tuple #[]) (wr.setCells blk (off + q * k) (Builtin.zeroCells z (d.size - q)).toList) := fun ty =>
                run_clear_k wr _ _ ty (.agg z) tP hz blk (off + q * k) _ _ (by omega) (fun v hv => hz1 v (mem_zeroCells hv (by omega)))
                  (fun j hj => by rw [size_zeroCells, show (Value.agg z).cells.size = k from hzs] at hj; rw [Nat.add_assoc, (hH (q * k + j) (by rw [size_flatK, hds]; omega)).1]; rfl)
                  (fun j hj => by rw [size_zeroCells, show (Value.agg z).cells.size = k from hzs] at hj; rw [Nat.add_assoc]; exact (hH (q * k + j) (by rw [size_flatK, hds]; omega)).2)
              have HH : Aside _ := hH
              have m1 : ¬ ((k2 : Int) < ((d.size - (p + 1) : Nat) : Int)) := by omega
              have q1 : (0 : Int) ≤ (q : Int) := by omega
              have q2 : (q : Int) ≤ (d.size : Int) := by omega
              have q3 : (d.size : Int) ≤ (cap : Int) := by omega
              clear hH hmul
              go_wp2
              go_ret
              have hI := HI.out
              rw [hend] at hI
              have hu : (uniq eq d.toList).length = q := by rw [← cpt_uniq]; exact hI.len
              refine ⟨by rw [hu]; rfl, ?_, by simpa using S1.out.lt R.hblk, fun B b1 b2 => below_setCells b1 _ _ _ (swk_below S1.out b1 b2)⟩
              exact holds_cut HH.out _ (by omega) (fun j hj => by rw [← cpt_uniq]; exact hI.low j (by omega)) _ (by rw [hu]; exact Nat.le_refl _) _
      · have hltz : ¬ (kk : Int) < (d.size : Int) := by omega
        obtain rfl : kk = d.size := by omega
        go_wp2
        go_ret
        exact HW.out _ S1.out HA.out

set_option maxHeartbeats 8000000 in
set_option maxRecDepth 1000000 in
theorem compactFunc_any (L : CpP P) (k : Nat) (aE : ∀ w, (isAgg 50).run P w = .ok true w) (zE : ∀ w, (Go.sizeOf 50).run P w = .ok k w) (enc : α → List Value) (eq : α → α → Bool)
    (g : Nat) (eg : ∀ args w, (callFunc g args).run P w = .ok (.enter g args) w) (heq : ∀ (x y : α) (w : World), Calls P g (#[.agg (enc x).toArray, .agg (enc y).toArray] ++ #[]) w fun e w' => e = .returned (.bool (eq x y)) ∧ ∃ q os', w' = grow (w.drewN q) os')
    (z : Array Value) (hz : ∀ w, (zeroValue 50).run P w = .ok (.agg z) w) (hzs : z.size = k) (hz1 : ∀ v ∈ z, v.oneCell' = true) (hk0 : 0 < k)
    (blk off cap : Nat) (d0 d : Array α) (w0 w : World) (R : RowK enc k w0 blk off d0) (hs : d0.size = d.size) (S : SWK enc k w0 blk off d w) (hsz : d.size < 4611686018427387904) (hcap : d.size ≤ cap) (_hmax : d.size * k < 4611686018427387904) :
    Calls P 62 #[.slice (some ⟨blk, off, none⟩) d.size cap, .func (.func g) #[] #[]] w (CutTo enc k w0 blk off cap (uniq eq d.toList)) := by
  have mixed := L.mixed; have t0 := L.t0; have a0 := L.a0; have z0 := L.z0; have v0 := L.v0; have t3 := L.t3; have a3 := L.a3; have z3 := L.z3; have v3 := L.v3; have t4 := L.t4; have a4 := L.a4; have z4 := L.z4; have v4 := L.v4; have tS := L.tS; have aS := L.aS; have zS := L.zS; have vS := L.vS; have tF := L.tF; have aF := L.aF; have zF := L.zF; have vF := L.vF
  have uS := run_underlying L.tS
  have S0 : Aside (SWK enc k w0 blk off d w) := S
  have HW : Aside (∀ W, SWK enc k w0 blk off d W → (∀ j, j < d.size → kp eq d j = true) → CutTo enc k w0 blk off cap (uniq eq d.toList) (.returned (.slice (some ⟨blk, off, none⟩) d.size cap)) W) := fun W hW hall => cut_whole hW R hs.symm hall
  have HE : Aside _ := heq
  clear heq
  clear S
  by_cases h2 : d.size < 2
  · have h2z : (d.size : Int) < 2 := by omega
    go_enter L.fCF, Try.ntmps62
    go_wp2
    go_ret
    refine HW.out _ S0.out fun j hj => ?_
    obtain rfl : j = 0 := by omega
    rfl
  · have h2z : ¬ (d.size : Int) < 2 := by omega
    go_enter L.fCF, Try.ntmps62
    clear L
    go_wp2
    go_loopg [5] d.size (fun gk s3 wr => ∃ kk : Nat, 1 ≤ kk ∧ kk ≤ d.size ∧ d.size - kk ≤ gk ∧ s3 = .int .i64 kk ∧ Aside (SWK enc k w0 blk off d wr) ∧ Hid (∀ j, j < kk → kp eq d j = true))
    case atStart => exact ⟨1, Nat.le_refl _, by omega, by omega, rfl, S0, fun j hj => (show j = 0 by omega) ▸ rfl⟩
    case round =>
      clear S0
      obtain ⟨kk, hk1, hkd, hg, rfl, S1, HA⟩ := hrel
      by_cases hlt : kk < d.size
      · have hltz : (kk : Int) < (d.size : Int) := by omega
        obtain ⟨p, hp⟩ : ∃ p, kk = p + 1 := ⟨kk - 1, by omega⟩
        subst hp
        obtain ⟨x, hx⟩ : ∃ x, d[p + 1]! = x := ⟨_, rfl⟩
        obtain ⟨y, hy⟩ : ∃ y, d[p]! = y := ⟨_, rfl⟩
        have lx := fun n' os' => S1.out.ld R (by omega) P (p + 1) (by omega) n' os'
        have ly := fun n' os' => S1.out.ld R (by omega) P p (by omega) n' os'
        rw [hx] at lx
        rw [hy] at ly
        have XY : Hid (d[p + 1]! = x ∧ d[p]! = y) := ⟨hx, hy⟩
        clear hx hy
        have p1 : (0 : Int) ≤ (p : Int) + 1 := by omega
        have p2 : (p : Int) + 1 < (d.size : Int) := by omega
        have p3 : ((p : Int) + 1).toNat = p + 1 := by omega
        have p4 : (0 : Int) ≤ (p : Int) := by omega
        have p5 : (p : Int) < (d.size : Int) := by omega
        have p6 : IntKind.i64.wrap (p : Int) = (p : Int) := by rw [IntKind.wrap_i64]; omega
        obtain ⟨f, hf⟩ : ∃ f, eq x y = f := ⟨_, rfl⟩
        have C1 : ∀ w, Calls P g (#[.agg (enc x).toArray, .agg (enc y).toArray] ++ #[]) w fun e w' => e = .returned (.bool f) ∧ ∃ q os', w' = grow (w.drewN q) os' := fun w => by rw [← hf]; exact HE.out x y w
        have HF : Hid (eq x y = f) := hf
        clear hf
        generalize enc x = cx at *
        generalize enc y = cy at *
        cases f with
        | false =>
          go_wp2_with fail
          go_quiet_grown (first | (go_at_fn g; refine Calls.grown_of (C1 _)))
          have S2 : Aside (SWK enc k w0 blk off d (grow (wr.drewN nq) osq)) := S1.out.grown nq osq
          clear S1 lx ly C1
          generalize grow (wr.drewN nq) osq = w2 at S2 ⊢
          go_wp2
          go_roundg (d.size - (p + 1 + 1))
          case measure => omega
          case rel =>
            refine ⟨p + 1 + 1, by omega, by omega, Nat.le_refl _, by go_num, S2, ?_⟩
            show ∀ j, j < p + 1 + 1 → kp eq d j = true
            intro j hj
            by_cases e : j = p + 1
            · subst e
              unfold kp
              rw [Nat.add_sub_cancel, XY.out.1, XY.out.2, HF.out]
              simp
            · exact HA.out j (by omega)
        | true =>
          go_wp2_with fail
          go_quiet_grown (first | (go_at_fn g; refine Calls.grown_of (C1 _)))
          have S2 : Aside (SWK enc k w0 blk off d (grow (wr.drewN nq) osq)) := S1.out.grown nq osq
          clear S1 lx ly C1
          generalize grow (wr.drewN nq) osq = w2 at S2 ⊢
          have HI : Aside (CInv eq d (p + 1 + 1) (p + 1) d) := CInv.start HA.out (by unfold kp; rw [Nat.add_sub_cancel, XY.out.1, XY.out.2, HF.out]; simp)
          clear HA XY HF
          go_wp2
          go_loopg [5, 7] d.size (fun gk sA sB wr => ∃ (q k2 : Nat) (dk : Array α), sA = .int .i64 q ∧ sB = .int .i64 k2 ∧ 1 ≤ k2 ∧ p + 1 + k2 ≤ d.size ∧ d.size - (p + 1 + k2) ≤ gk ∧ dk.size = d.size ∧ Aside (SWK enc k w0 blk off dk wr) ∧ Aside (CInv eq d (p + 1 + k2) q dk))
          case atStart => exact ⟨p + 1, 1, d, by go_num, rfl, Nat.le_refl _, by omega, by omega, rfl, S2, HI⟩
          case round =>
            clear S2 HI
            obtain ⟨q, k2, dk, rfl, rfl, hk2, hle, hg2, hds, S1, HI⟩ := hrel
            have hq := HI.out.lt
            by_cases hlt2 : p + 1 + k2 < d.size
            · obtain ⟨r, hr⟩ : ∃ r, k2 = r + 1 := ⟨k2 - 1, by omega⟩
              subst hr
              obtain ⟨u, hu⟩ : ∃ u, dk[p + 1 + (r + 1)]! = u := ⟨_, rfl⟩
              obtain ⟨v, hv⟩ : ∃ v, dk[p + 1 + r]! = v := ⟨_, rfl⟩
              have hud : d[p + 1 + (r + 1)]! = u := by rw [← HI.out.high _ (by omega)]; exact hu
              have hvd : d[p + 1 + (r + 1) - 1]! = v := by rw [← HI.out.high _ (by omega)]; exact hv
              have lu := fun n' os' => S1.out.ld R (by omega) P (p + 1 + (r + 1)) (by omega) n' os'
              have lv := fun n' os' => S1.out.ld R (by omega) P (p + 1 + r) (by omega) n' os'
              rw [hu, show off + (p + 1 + (r + 1)) * k = off + (p + 1) * k + (r + 1) * k by rw [Nat.add_mul (p + 1), Nat.add_assoc]] at lu
              rw [hv, show off + (p + 1 + r) * k = off + (p + 1) * k + r * k by rw [Nat.add_mul (p + 1), Nat.add_assoc]] at lv
              have UV : Hid (d[p + 1 + (r + 1)]! = u ∧ d[p + 1 + (r + 1) - 1]! = v ∧ dk[p + 1 + (r + 1)]! = u) := ⟨hud, hvd, hu⟩
              clear hu hv hud hvd
              have r1 : (0 : Int) ≤ (r : Int) + 1 := by omega
              have r2 : (r : Int) + 1 < ((d.size - (p + 1) : Nat) : Int) := by omega
              have r3 : ((r : Int) + 1).toNat = r + 1 := by omega
              have r4 : (0 : Int) ≤ (r : Int) := by omega
              have r5 : (r : Int) < ((d.size - (p + 1) : Nat) : Int) := by omega
              have r6 : IntKind.i64.wrap (r : Int) = (r : Int) := by rw [IntKind.wrap_i64]; omega
              have q1 : (0 : Int) ≤ (q : Int) := by omega
              have q2 : (q : Int) < (d.size : Int) := by omega
              obtain ⟨f, hf⟩ : ∃ f, eq u v = f := ⟨_, rfl⟩
              have C1 : ∀ w, Calls P g (#[.agg (enc u).toArray, .agg (enc v).toArray] ++ #[]) w fun e w' => e = .returned (.bool f) ∧ ∃ q os', w' = grow (w.drewN q) os' := fun w => by rw [← hf]; exact HE.out u v w
              have HF : Hid (eq u v = f) := hf
              clear hf
              obtain ⟨cu, hcu⟩ : ∃ c, enc u = c := ⟨_, rfl⟩
              obtain ⟨cv, hcv⟩ : ∃ c, enc v = c := ⟨_, rfl⟩
              rw [hcu] at lu
              rw [hcv] at lv
              rw [hcu, hcv] at C1
              have HCU : Hid (enc u = cu) := hcu
              have ncu : cu.length = k := by rw [← hcu]; exact R.hk _
              clear hcu hcv
              cases f with
              | true =>
                go_wp2_with fail
                go_quiet_grown (first | (go_at_fn g; refine Calls.grown_of (C1 _)))
                have S2 : Aside (SWK enc k w0 blk off dk (grow (wr.drewN nq) osq)) := S1.out.grown nq osq
                clear S1 lu lv C1
                generalize grow (wr.drewN nq) osq = w2 at S2 ⊢
                go_wp2
                go_roundg (d.size - (p + 1 + (r + 1 + 1)))
                case measure => omega
                case rel => exact ⟨q, r + 1 + 1, dk, rfl, by go_num, by omega, by omega, Nat.le_refl _, hds, S2, HI.out.skip (by unfold kp; rw [UV.out.1, UV.out.2.1, HF.out]; simp)⟩
              | false =>
                go_wp2_with fail
                go_quiet_grown (first | (go_at_fn g; refine Calls.grown_of (C1 _)))
                have S2 : Aside (SWK enc k w0 blk off dk (grow (wr.drewN nq) osq)) := S1.out.grown nq osq
                clear S1 lu lv C1
                generalize grow (wr.drewN nq) osq = w2 at S2 ⊢
                have lw := S2.out.load R (by omega) P (p + 1 + (r + 1)) (by omega)
                rw [UV.out.2.2, HCU.out, show off + (p + 1 + (r + 1)) * k = off + (p + 1) * k + (r + 1) * k by rw [Nat.add_mul (p + 1), Nat.add_assoc]] at lw
                have st := swk_stp S2.out R (by omega) P q (by omega) u
                have S3 : Aside (SWK enc k w0 blk off (dk.setIfInBounds q u) (w2.setCells blk (off + q * k) (enc u))) := swk_put S2.out R q (by omega) u
                rw [HCU.out] at st S3
                clear S2
                go_wp2_with fail
                clear lw st
                generalize w2.setCells blk (off + q * k) cu = w3 at S3 ⊢
                go_wp2
                go_roundg (d.size - (p + 1 + (r + 1 + 1)))
                case measure => omega
                case rel =>
                  have hI2 := HI.out.keep hlt2 (by unfold kp; rw [UV.out.1, UV.out.2.1, HF.out]; simp)
                  rw [UV.out.1] at hI2
                  exact ⟨q + 1, r + 1 + 1, dk.setIfInBounds q u, by go_num, by go_num, by omega, by omega, Nat.le_refl _, by simp [hds], S3, hI2⟩
            · have hend : p + 1 + k2 = d.size := by omega
              have hH : HoldsK enc k wr blk off dk := S1.out.holds R.hblk R.hH (by omega)
              have hmul : q * k + (d.size - q) * k = d.size * k := by rw [← Nat.add_mul, Nat.add_sub_cancel' (by omega)]
              have hcl : ∀ ty, (Builtin.clear_ #[40] ty #[.slice (some ⟨blk, off + q * k, none⟩) (d.size - q) (cap - q)]).run P wr = .ok (.tuple #[]) (wr.setCells blk (off + q * k) (Builtin.zeroCells z (d.size - q)).toList) := fun ty =>
                run_clear_k wr _ _ ty (.agg z) tS hz blk (off + q * k) _ _ (by omega) (fun v hv => hz1 v (mem_zeroCells hv (by omega)))
                  (fun j hj => by rw [size_zeroCells, show (Value.agg z).cells.size = k from hzs] at hj; rw [Nat.add_assoc, (hH (q * k + j) (by rw [size_flatK, hds]; omega)).1]; rfl)
                  (fun j hj => by rw [size_zeroCells, show (Value.agg z).cells.size = k from hzs] at hj; rw [Nat.add_assoc]; exact (hH (q * k + j) (by rw [size_flatK, hds]; omega)).2)
              have HH : Aside _ := hH
              have m1 : ¬ ((k2 : Int) < ((d.size - (p + 1) : Nat) : Int)) := by omega
              have q1 : (0 : Int) ≤ (q : Int) := by omega
              have q2 : (q : Int) ≤ (d.size : Int) := by omega
              have q3 : (d.size : Int) ≤ (cap : Int) := by omega
              clear hH hmul
              go_wp2
              go_ret
              have hI := HI.out
              rw [hend] at hI
              have hu : (uniq eq d.toList).length = q := by rw [← cpt_uniq]; exact hI.len
              refine ⟨by rw [hu]; rfl, ?_, by simpa using S1.out.lt R.hblk, fun B b1 b2 => below_setCells b1 _ _ _ (swk_below S1.out b1 b2)⟩
              exact holds_cut HH.out _ (by omega) (fun j hj => by rw [← cpt_uniq]; exact hI.low j (by omega)) _ (by rw [hu]; exact Nat.le_refl _) _
      · have hltz : ¬ (kk : Int) < (d.size : Int) := by omega
        obtain rfl : kk = d.size := by omega
        go_wp2
        go_ret
        exact HW.out _ S1.out HA.out

end Go.Proofs.Ytifeeneojlhffaa

/-
  The walks of package node's innerBody and Encode.
-/
import Derived.Test.YtmamnlphhiaeoaaNdRt
import Derived.Test.YtmamnlphhiaeoaaNd2
namespace Go.Proofs.Ytmamnlphhiaeoaa
open Go.Shelf Go.RowKit Go.Lib Go.Sort

theorem flatS1 (s : ByteArray) : (flatK encS 1 [s].toArray).toList = [.string s] := by
  have := flatK_snoc encS 1 encS_len [] s
  rw [List.nil_append] at this
  rw [this]
  simp [flatK, encS]
theorem flatI1 (s : Int) : (flatK encI 1 [s].toArray).toList = [.int .i64 s] := by
  have := flatK_snoc encI 1 encI_len [] s
  rw [List.nil_append] at this
  rw [this]
  simp [flatK, encI]
theorem ownS1 {base : Nat} (w : World) (s : ByteArray) (hb : base ≤ w.heap.size) : OwnS base (w.alloc (.cells #[.string s] 9)) (.slice (some ⟨w.heap.size, 0, none⟩) 1 1) [s] := by
  refine ⟨by simp, .inr ⟨w.heap.size, 1, #[.string s], rfl, hb, heap_alloc_new w _, Nat.le_refl _, by decide, rfl, ?_⟩⟩
  rw [flatS1]; rfl
theorem ownI1 {base : Nat} (w : World) (s : Int) (hb : base ≤ w.heap.size) : OwnI base (w.alloc (.cells #[.int .i64 s] 3)) (.slice (some ⟨w.heap.size, 0, none⟩) 1 1) [s] := by
  refine ⟨by simp, .inr ⟨w.heap.size, 1, #[.int .i64 s], rfl, hb, heap_alloc_new w _, Nat.le_refl _, by decide, rfl, ?_⟩⟩
  rw [flatI1]; rfl

/-- The texts that innerBody joins. -/
def ptP : List Pk → List ByteArray
  | [] => []
  | p :: l => ⟨(txL p.1).toArray⟩ :: ⟨(b4 p.2).toArray⟩ :: ptP l
theorem ptP_app (l m : List Pk) : ptP (l ++ m) = ptP l ++ ptP m := by
  induction l with
  | nil => rfl
  | cons x l ih => simp [ptP, ih]
theorem ptP_snoc {l : List Pk} {i : Nat} (h : i < l.length) : ptP (l.take (i + 1)) = ptP (l.take i) ++ [⟨(txL l[i]!.1).toArray⟩, ⟨(b4 l[i]!.2).toArray⟩] := by
  rw [take_next h, ptP_app]; rfl
theorem cat_ptP (k : Int) (l : List Pk) : cat (⟨(b4 k).toArray⟩ :: ptP l) = b4 k ++ bdP l := by
  have : ∀ l : List Pk, cat (ptP l) = bdP l := by
    intro l
    induction l with
    | nil => rfl
    | cons x l ih =>
      unfold cat at ih ⊢
      simp [ptP, bdP, ih]
  have e : cat (⟨(b4 k).toArray⟩ :: ptP l) = b4 k ++ cat (ptP l) := by unfold cat; simp
  rw [e, this]

theorem put4_ok {k : Int} (h : okK k = true) : putS 4 k = b4 k ∧ putE 4 k = 0 := by
  have := okK_iff.1 h
  have hb : putB 4 k = true := by
    unfold putB szB
    simp only [Bool.and_eq_true, decide_eq_true_eq]
    refine ⟨by decide, by omega, ?_⟩
    have : ((256 ^ (4 : Int).toNat : Nat) : Int) = 4294967296 := by decide
    rw [this]; omega
  unfold putS putE
  rw [if_pos hb, if_pos hb]
  exact ⟨rfl, rfl⟩

set_option maxHeartbeats 4000000 in
set_option maxRecDepth 100000 in
theorem innerBody_any (k0 : Int) (ps : List Pk) (ve vk vs : Value) (w : World) (h : NdR w ve vk vs (inN k0 ps)) (hs : Sm (inN k0 ps)) (hk0 : okK k0 = true) (hkk : ∀ p ∈ ps, okK p.2 = true) (hky : kyB (ps.map (·.1)) = true) :
    Calls Try.prog 37 #[.agg #[.bool false, ve, vk, vs]] w fun e w' => e = .returned (.string ⟨(b4 k0 ++ bdP ps).toArray⟩) ∧ Below w.heap.size w w' := by
  have s3 : ps.length ≤ 1000 := by have := hs.s; simpa [inN] using this
  have s5 : szK (ps.map (·.1)) ≤ 1000000 := hs.sz
  have he := h.e
  have hk := h.k
  have hss := h.s
  simp only [inN] at he hk hss
  obtain ⟨B, c0, c1, c2, c3, hlt⟩ := ndCl w false ve vk vs 26
  have RK0 := hk.below B
  have RS0 := hss.below B
  obtain ⟨ae, ce, rfl, _⟩ := rowShape he
  obtain ⟨ak, ck, rfl, _⟩ := rowShape hk
  obtain ⟨az, cz, rfl, _⟩ := rowShape hss
  have HB : Hid _ := B
  clear he hk hss B h hs
  simp only [List.length_cons, List.length_map, List.length_nil] at c0 c1 c2 c3 hlt HB RK0 RS0 ⊢
  obtain ⟨ak1, ck1, e1, a1, a2, a3⟩ := RK0
  injection e1 with e1 e1' e1''
  subst e1 e1''
  obtain ⟨az1, cz1, e2, b1, b2, b3⟩ := RS0
  injection e2 with e2 e2' e2''
  subst e2 e2''
  have lk : (k0 :: ps.map (·.2)).length = ps.length + 1 := by simp
  have ls : (ps.map (·.1)).length = ps.length := by simp
  have K3 : Aside (k0 :: ps.map (·.2) ≠ [] → ∃ b off, ak = some ⟨b, off, none⟩ ∧ b < (w.alloc (.cells #[.bool false, .slice ae 0 ce, .slice ak (ps.length + 1) ck, .slice az ps.length cz] 26)).heap.size ∧ CellsK encI 1 (w.alloc (.cells #[.bool false, .slice ae 0 ce, .slice ak (ps.length + 1) ck, .slice az ps.length cz] 26)) b off (k0 :: ps.map (·.2))) := a3
  have S3 : Aside (ps.map (·.1) ≠ [] → ∃ b off, az = some ⟨b, off, none⟩ ∧ b < (w.alloc (.cells #[.bool false, .slice ae 0 ce, .slice ak (ps.length + 1) ck, .slice az ps.length cz] 26)).heap.size ∧ CellsK encS 1 (w.alloc (.cells #[.bool false, .slice ae 0 ce, .slice ak (ps.length + 1) ck, .slice az ps.length cz] 26)) b off (ps.map (·.1))) := b3
  have LK : Hid ((k0 :: ps.map (·.2)).length = ps.length + 1) := lk
  have LS : Hid ((ps.map (·.1)).length = ps.length) := ls
  have HKK : Hid (∀ p ∈ ps, okK p.2 = true) := hkk
  have HKY : Hid (kyB (ps.map (·.1)) = true) := hky
  clear a3 b3 lk ls hkk hky e1' e2'
  obtain ⟨t1, t2⟩ := put4_ok hk0
  have C0 : Hid _ := put_any 4 k0 (w.alloc (.cells #[.bool false, .slice ae 0 ce, .slice ak (ps.length + 1) ck, .slice az ps.length cz] 26))
  rw [t1, t2] at C0
  obtain ⟨fs, hfs⟩ : ∃ x : ByteArray, (⟨(b4 k0).toArray⟩ : ByteArray) = x := ⟨_, rfl⟩
  rw [hfs] at C0
  have HFS : Hid ((⟨(b4 k0).toArray⟩ : ByteArray) = fs) := hfs
  clear t1 t2 hfs hk0
  go_enter Try.func37, Try.ntmps37
  go_upto_region 1 with fail
  generalize w.alloc (.cells #[.bool false, .slice ae 0 ce, .slice ak (ps.length + 1) ck, .slice az ps.length cz] 26) = W at *
  obtain ⟨kb, ko, rfl, hkb, x0⟩ := rowI_at K3.out 0 (by rw [LK.out]; omega) (Below.refl _ W)
  simp only [Nat.add_zero, List.getElem!_cons_zero] at x0
  have i0 : (0 : Int) < (ps.length : Int) + 1 := by omega
  go_wp2_with fail
  refine Calls.mono C0.out ?_
  rintro e w1 ⟨rfl, bb1⟩
  have B1 : Hid (Below W.heap.size W w1) := bb1
  have d3 : w1.cell? ⟨w.heap.size, 3, none⟩ = some (.slice az ps.length cz) := (bb1.cell (p := ⟨w.heap.size, 3, none⟩) hlt).trans c3
  clear bb1 C0 x0
  have O1 : Aside (OwnS w1.heap.size (w1.alloc (.cells #[.string fs] 9)) (.slice (some ⟨w1.heap.size, 0, none⟩) 1 1) [fs]) := ownS1 w1 fs (Nat.le_refl _)
  have B2 : Hid (Below w1.heap.size w1 (w1.alloc (.cells #[.string fs] 9))) := belAlloc _ (Below.refl _ _)
  have lw1 := B1.out.size
  have lw2 : w.heap.size < w1.heap.size := Nat.lt_of_lt_of_le hlt lw1
  go_wp2
  go_loopg [5, 25] ps.length (fun kx s5 s25 wr => ∃ (i : Nat) (ao' : Option Addr) (n' c' : Nat) (out : List ByteArray), s5 = .slice ao' n' c' ∧ s25 = .int .i64 i ∧ i ≤ ps.length ∧ ps.length - i ≤ kx ∧ out.length = 2 * i + 1 ∧ Hid (fs :: ptP (ps.take i) = out) ∧ Aside (OwnS w1.heap.size wr (.slice ao' n' c') out) ∧ Hid (Below w1.heap.size w1 wr))
  case atStart => exact ⟨0, _, _, _, [fs], rfl, rfl, Nat.zero_le _, Nat.le_refl _, rfl, rfl, O1, B2⟩
  case round =>
    clear O1 B2
    obtain ⟨i, ao', n', c', out, rfl, rfl, hi, hki, hol, HD, HO, HB5⟩ := hrel
    by_cases hil : i < ps.length
    · have hilz : (i : Int) < (ps.length : Int) := by omega
      have BT : Below W.heap.size W wr := B1.out.trans (HB5.out.mono B1.out.size)
      obtain ⟨sb, so, rfl, hsb, x1⟩ := rowS_at S3.out i (by rw [LS.out]; exact hil) BT
      obtain ⟨_, _, e9, _, y1⟩ := rowI_at K3.out (i + 1) (by rw [LK.out]; omega) BT
      cases e9
      have d2 : wr.cell? ⟨w.heap.size, 2, none⟩ = some (.slice (some ⟨kb, ko, none⟩) (ps.length + 1) ck) := (BT.cell (p := ⟨w.heap.size, 2, none⟩) hlt).trans c2
      rw [bangS hil] at x1
      have ey : (k0 :: ps.map (·.2))[i + 1]! = ps[i]!.2 := by
        have : (k0 :: ps.map (·.2))[i + 1]! = (ps.map (·.2))[i]! := by simp
        rw [this, bangS hil]
      rw [ey] at y1
      have T : Hid _ := ptP_snoc hil
      have hkx := HKK.out _ (bang_mem hil)
      have hsx := (kyB_may HKY.out (List.mem_map_of_mem (f := (·.1)) (bang_mem hil))).2
      have BTT : Hid (Below W.heap.size W wr) := BT
      clear ey BT
      generalize ps[i]! = x at *
      obtain ⟨sx, kx1⟩ := x
      simp only at x1 y1 hkx hsx T
      obtain ⟨t1, t2⟩ := tx_may (s := sx) (by omega)
      obtain ⟨t3, t4⟩ := put4_ok hkx
      have C1 : Hid _ := text_any sx wr (by unfold maxLen; omega)
      rw [t1, t2] at C1
      have C2 : Hid (∀ W', Calls Try.prog 57 #[.int .i64 4, .int .i64 kx1] W' fun r w' => r = .returned (.tuple #[.string ⟨(b4 kx1).toArray⟩, .int .i64 0]) ∧ Below W'.heap.size W' w') := fun W' => by
        have := put_any 4 kx1 W'
        rw [t3, t4] at this
        exact this
      obtain ⟨o2, ho2⟩ : ∃ o2, fs :: ptP (ps.take (i + 1)) = o2 := ⟨_, rfl⟩
      have T2 : Hid (out ++ [(⟨(txL sx).toArray⟩ : ByteArray), ⟨(b4 kx1).toArray⟩] = o2) := by show _ = _; rw [← ho2, T.out, ← HD.out]; simp
      have l2 : o2.length = 2 * (i + 1) + 1 := by rw [← T2.out]; simp; omega
      have HD2 : Hid (fs :: ptP (ps.take (i + 1)) = o2) := ho2
      clear T ho2 t1 t2 t3 t4 hkx HD
      generalize (⟨(txL sx).toArray⟩ : ByteArray) = p1 at *
      generalize (⟨(b4 kx1).toArray⟩ : ByteArray) = p2 at *
      go_wp2_with fail
      refine Calls.mono C1.out ?_
      rintro e w3 ⟨rfl, hb3⟩
      have B3 : Hid (Below w1.heap.size w1 w3) := HB5.out.trans (hb3.mono HB5.out.size)
      have O3 : Aside (OwnS w1.heap.size w3 (.slice ao' n' c') out) := HO.out.below hb3
      have BT3 : Below W.heap.size W w3 := BTT.out.trans (hb3.mono BTT.out.size)
      have d2' : w3.cell? ⟨w.heap.size, 2, none⟩ = some (.slice (some ⟨kb, ko, none⟩) (ps.length + 1) ck) := (BT3.cell (p := ⟨w.heap.size, 2, none⟩) hlt).trans c2
      have kbl : kb < wr.heap.size := by have := BTT.out.size; omega
      have y3 : w3.cell? ⟨kb, ko + (i + 1), none⟩ = some (.int .i64 kx1) := (hb3.cell (p := ⟨kb, ko + (i + 1), none⟩) kbl).trans y1
      clear hb3 C1 HO HB5 y1 x1 d2 BT3 BTT
      go_wp2_with fail
      refine Calls.mono (C2.out _) ?_
      rintro e w4 ⟨rfl, hb4⟩
      have B4 : Hid (Below w1.heap.size w1 w4) := B3.out.trans (hb4.mono B3.out.size)
      have O4 : Aside (OwnS w1.heap.size w4 (.slice ao' n' c') out) := O3.out.below hb4
      clear hb4 C2 O3 B3 y3 d2'
      have B5 : Hid (Below w1.heap.size w1 (w4.alloc (.cells #[.string p1, .string p2] 9))) := B4.out.alloc B4.out.size _
      have O5 : Aside (OwnS w1.heap.size (w4.alloc (.cells #[.string p1, .string p2] 9)) (.slice ao' n' c') out) := O4.out.below ((Below.refl _ w4).alloc (Nat.le_refl _) _)
      have K5 : Hid (Cl (w4.alloc (.cells #[.string p1, .string p2] 9)) w4.heap.size #[.string p1, .string p2] 9) := Cl.new _ _ _
      have hsz := B5.out.size
      clear O4 B4
      go_wp2_with (at_builtin; refine app_two rfl _ _ rfl w1.heap.size _ out rfl O5.out _ p1 p2 rfl K5.out (by omega) hsz o2 T2.out ?_)
      intro a6 n6 c6 w6 P6 Q6
      have O7 : Aside (OwnS w1.heap.size w6 (.slice a6 n6 c6) o2) := P6
      have B7 : Hid (Below w1.heap.size w1 w6) := Q6 _ B5.out
      clear P6 Q6 O5 K5 B5 hsz T2
      go_wp2
      go_roundg (ps.length - (i + 1))
      case measure => omega
      case rel => exact ⟨i + 1, a6, n6, c6, o2, rfl, by go_num, by omega, Nat.le_refl _, l2, HD2, O7, B7⟩
    · have hilz : ¬ (i : Int) < (ps.length : Int) := by omega
      obtain rfl : i = ps.length := by omega
      rw [List.take_length] at HD
      have CJ : Hid _ := join_own HO.out (by omega) (by rw [← HD.out, ← HFS.out, cat_ptP, List.length_append, b4_length, bdP_length]; omega)
      rw [← HD.out, ← HFS.out, cat_ptP] at CJ
      clear HO HD
      go_wp2_with (go_at_call 56; refine Calls.mono CJ.out ?_; rintro e w6 ⟨rfl, hb6⟩)
      go_ret
      exact ⟨rfl, HB.out.trans ((B1.out.trans ((HB5.out.trans (hb6.mono HB5.out.size)).mono B1.out.size)).mono HB.out.size)⟩

end Go.Proofs.Ytmamnlphhiaeoaa

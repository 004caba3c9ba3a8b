/-
  The walks of edge.Key and Parse, of the document's Key, and the plain laws of both.
-/
import Derived.Test.YtifeeneojlhffaaEdSmall
namespace Go.Proofs.Ytifeeneojlhffaa
open Go.RowKit

/-- What Key answers. -/
def keyS (u v : Int) : List UInt8 := if (vtx u && vtx v) = true then beBytes 4 u.toNat ++ beBytes 4 v.toNat else []
def keyE (u v : Int) : Int := if (vtx u && vtx v) = true then 0 else 30

theorem vtx_nat {u : Int} (h : vtx u = true) : ∃ n : Nat, u = n ∧ n < 1048576 := by
  have : 0 ≤ u ∧ u < 1048576 := by simpa [vtx] using h
  exact ⟨u.toNat, by omega, by omega⟩

theorem put_vtx {u : Int} (h : vtx u = true) : putS 4 u = beBytes 4 u.toNat ∧ putE 4 u = 0 := by
  obtain ⟨n, rfl, hn⟩ := vtx_nat h
  have : putB 4 (n : Int) = true := by simp [putB, szB]; omega
  simp [putS, putE, this]

theorem ret_key {a b : List UInt8} {c d : Int} (h : a = b) (k : c = d) : Ending.returned (.tuple #[.string ⟨a.toArray⟩, .int .i64 c]) = .returned (.tuple #[.string ⟨b.toArray⟩, .int .i64 d]) := by rw [h, k]

set_option maxRecDepth 100000 in
set_option maxHeartbeats 1000000 in
theorem key_any (u v : Int) (w : World) : Calls Try.prog 13 #[.int .i64 u, .int .i64 v] w fun e w' => e = .returned (.tuple #[.string ⟨(keyS u v).toArray⟩, .int .i64 (keyE u v)]) ∧ Below w.heap.size w w' := by
  have A : Aside (∀ w, Calls Try.prog 28 #[.int .i64 u, .int .i64 v] w fun e w' => e = .returned (.bool (vtx u && vtx v)) ∧ w = w') := fun w => areV_any u v w
  cases hv : (vtx u && vtx v)
  · have E1 : Hid (keyS u v = []) := by simp [Hid, keyS, hv]
    have E2 : Hid (keyE u v = 30) := by simp [Hid, keyE, hv]
    rw [hv] at A
    clear hv
    go_enter Try.func13, Try.ntmps13
    go_wp2_with (go_at_call 28; refine Calls.mono (A.out _) ?_; rintro e w' ⟨rfl, rfl⟩)
    go_ret2
    rw [E1.out, E2.out]
    exact ⟨rfl, Below.refl _ _⟩
  · have h2 := Bool.and_eq_true_iff.1 hv
    have E1 : Hid (keyS u v = putS 4 u ++ putS 4 v) := by rw [(put_vtx h2.1).1, (put_vtx h2.2).1]; simp [Hid, keyS, hv]
    have E2 : Hid (keyE u v = 0) := by simp [Hid, keyE, hv]
    have L1 : (putS 4 u).length = 4 := by rw [(put_vtx h2.1).1, beBytes_length]
    have L2 : (putS 4 v).length = 4 := by rw [(put_vtx h2.2).1, beBytes_length]
    have P1 : Hid (∀ w, Calls Try.prog 29 #[.int .i64 4, .int .i64 u] w fun r w' => r = .returned (.tuple #[.string ⟨(putS 4 u).toArray⟩, .int .i64 (putE 4 u)]) ∧ Below w.heap.size w w') := fun w => put_any 4 u w
    have P2 : Hid (∀ w, Calls Try.prog 29 #[.int .i64 4, .int .i64 v] w fun r w' => r = .returned (.tuple #[.string ⟨(putS 4 v).toArray⟩, .int .i64 (putE 4 v)]) ∧ Below w.heap.size w w') := fun w => put_any 4 v w
    generalize putS 4 u = X at *
    generalize putS 4 v = Y at *
    generalize putE 4 u = x at *
    generalize putE 4 v = y at *
    rw [hv] at A
    clear hv h2
    go_enter Try.func13, Try.ntmps13
    go_wp2_with (go_at_call 28; refine Calls.mono (A.out _) ?_; rintro e w' ⟨rfl, rfl⟩)
    refine Calls.mono (P1.out _) ?_
    rintro e w1 ⟨rfl, hb1⟩
    go_wp2_with fail
    refine Calls.mono (P2.out _) ?_
    rintro e w2 ⟨rfl, hb2⟩
    go_wp2_with fail
    refine (join2 ⟨X.toArray⟩ ⟨Y.toArray⟩ w2 (by rw [ba_size, ba_size]; omega)).mono ?_
    rintro e w3 ⟨rfl, hb3⟩
    go_wp2
    go_ret2
    have k1 := hb1.size
    have k2 := hb2.size
    exact ⟨ret_key (by rw [E1.out]) E2.out.symm, (hb1.trans (hb2.mono k1)).trans (hb3.mono (by omega))⟩

/-- What Parse answers. -/
def prs (s : ByteArray) : Int × Int × Int :=
  if rdEnd (rdInt (rdInt s 0 4).2.1 (rdInt s 0 4).2.2 4).2.1 (rdInt (rdInt s 0 4).2.1 (rdInt s 0 4).2.2 4).2.2 = 0 ∧ (vtx (rdInt s 0 4).1 && vtx (rdInt (rdInt s 0 4).2.1 (rdInt s 0 4).2.2 4).1) = true then ((rdInt s 0 4).1, (rdInt (rdInt s 0 4).2.1 (rdInt s 0 4).2.2 4).1, 0) else (0, 0, 30)

theorem prs_eq {s : ByteArray} {u v e1 e2 : Int} {s1 s2 : ByteArray} (hA : rdInt s 0 4 = (u, s1, e1)) (hB : rdInt s1 e1 4 = (v, s2, e2)) :
    prs s = if rdEnd s2 e2 = 0 ∧ (vtx u && vtx v) = true then (u, v, 0) else (0, 0, 30) := by
  unfold prs
  rw [hA]
  simp only
  rw [hB]

theorem prs_cases (s : ByteArray) : (∃ x y, prs s = (x, y, 0) ∧ vtx x = true ∧ vtx y = true ∧ s = ⟨(keyS x y).toArray⟩) ∨ prs s = (0, 0, 30) := by
  obtain ⟨u, s1, e1, hA⟩ : ∃ u s1 e1, rdInt s 0 4 = (u, s1, e1) := ⟨_, _, _, rfl⟩
  obtain ⟨v, s2, e2, hB⟩ : ∃ v s2 e2, rdInt s1 e1 4 = (v, s2, e2) := ⟨_, _, _, rfl⟩
  rw [prs_eq hA hB]
  by_cases h : rdEnd s2 e2 = 0 ∧ (vtx u && vtx v) = true
  · rw [if_pos h]
    left
    have hv := Bool.and_eq_true_iff.1 h.2
    have he : e2 = 0 ∧ s2.size = 0 := by
      have h1 := h.1
      unfold rdEnd at h1
      by_cases a : e2 = 0
      · by_cases b : s2.size = 0
        · exact ⟨a, b⟩
        · simp [a, b] at h1
      · simp [a] at h1
    obtain ⟨e1z, _, l2, r2, hs1, hn2, hI2⟩ := rdInt_inv s1 e1 4 (by rw [hB]; exact he.1)
    obtain ⟨_, _, l1, r1, hs, hn1, hI1⟩ := rdInt_inv s 0 4 (by rw [hA]; exact e1z)
    rw [hA] at hI1
    rw [hB] at hI2
    simp only [Prod.mk.injEq] at hI1 hI2
    obtain ⟨rfl, hr1, _⟩ := hI1
    obtain ⟨rfl, hr2, _⟩ := hI2
    have hr : r1 = l2 ++ r2 := by
      have h1 := hr1.symm.trans hs1
      have h2 := congrArg (fun b : ByteArray => b.data.toList) h1
      simpa using h2
    have hz : r2 = [] := by
      have := he.2
      rw [hr2, ba_size] at this
      exact List.length_eq_zero_iff.1 this
    subst hz
    rw [List.append_nil] at hr
    subst hr
    refine ⟨_, _, rfl, hv.1, hv.2, ?_⟩
    have k : keyS (beNat l1) (beNat r1) = l1 ++ r1 := by
      unfold keyS
      rw [if_pos h.2, Int.toNat_natCast, Int.toNat_natCast, beBytes_nat 4 l1 (by omega), beBytes_nat 4 r1 (by omega)]
    rw [k]
    exact hs
  · rw [if_neg h]
    exact Or.inr rfl

theorem prs_key {u v : Int} (hu : vtx u = true) (hv : vtx v = true) : prs ⟨(keyS u v).toArray⟩ = (u, v, 0) := by
  have hc : (vtx u && vtx v) = true := by rw [hu, hv]; rfl
  have e : keyS u v = beBytes 4 u.toNat ++ beBytes 4 v.toNat := by unfold keyS; rw [if_pos hc]
  obtain ⟨n, rfl, hn⟩ := vtx_nat hu
  obtain ⟨m, rfl, hm⟩ := vtx_nat hv
  rw [Int.toNat_natCast, Int.toNat_natCast] at e
  have hA := rdInt_app (beBytes 4 n) (beBytes 4 m) 4 (by rw [beBytes_length]; rfl) rfl
  have hB := rdInt_app (beBytes 4 m) [] 4 (by rw [beBytes_length]; rfl) rfl
  rw [List.append_nil] at hB
  rw [beNat_bytes 4 n (by omega)] at hA
  rw [beNat_bytes 4 m (by omega)] at hB
  rw [e, prs_eq hA hB, if_pos ⟨rfl, hc⟩]

theorem ret3 {a b c d e f : Int} (h1 : a = d) (h2 : b = e) (h3 : c = f) : Ending.returned (.tuple #[.int .i64 a, .int .i64 b, .int .i64 c]) = .returned (.tuple #[.int .i64 d, .int .i64 e, .int .i64 f]) := by rw [h1, h2, h3]

set_option maxRecDepth 100000 in
set_option maxHeartbeats 1000000 in
theorem parse_any (s : ByteArray) (w : World) (hs : s.size ≤ maxLen) : Calls Try.prog 14 #[.string s] w fun e w' => e = .returned (.tuple #[.int .i64 (prs s).1, .int .i64 (prs s).2.1, .int .i64 (prs s).2.2]) ∧ Below w.heap.size w w' := by
  obtain ⟨u, s1, e1, hA⟩ : ∃ u s1 e1, rdInt s 0 4 = (u, s1, e1) := ⟨_, _, _, rfl⟩
  obtain ⟨v, s2, e2, hB⟩ : ∃ v s2 e2, rdInt s1 e1 4 = (v, s2, e2) := ⟨_, _, _, rfl⟩
  have P : Hid (prs s = if rdEnd s2 e2 = 0 ∧ (vtx u && vtx v) = true then (u, v, 0) else (0, 0, 30)) := prs_eq hA hB
  have C1 := int_any _ s 0 4 _ (Rd.made s hs w)
  rw [hA] at C1
  have D1 : Hid _ := C1
  have C2 : Hid (∀ b W, Rd b s1 e1 W → Calls Try.prog 32 #[.pointer (some ⟨b, 0, none⟩), .int .i64 4] W fun r w' => r = .returned (.int .i64 v) ∧ Rd b s2 e2 w' ∧ Only b W w') := fun b W h => by
    have := int_any b s1 e1 4 W h
    rw [hB] at this
    exact this
  have AV : Hid (∀ w, Calls Try.prog 28 #[.int .i64 u, .int .i64 v] w fun e w' => e = .returned (.bool (vtx u && vtx v)) ∧ w = w') := fun w => areV_any u v w
  clear hA hB C1
  go_enter Try.func14, Try.ntmps14
  go_wp2_with fail
  refine (read_any _ _).mono ?_
  rintro e w1 ⟨rfl, rfl⟩
  go_wp2_with fail
  refine Calls.mono D1.out ?_
  rintro e w2 ⟨rfl, hr2, ho2⟩
  have R2 : Hid (Rd _ _ _ _) := hr2
  have O2 : Hid (Only _ _ _) := ho2
  clear hr2 ho2
  go_wp2_with fail
  refine Calls.mono (C2.out _ _ R2.out) ?_
  rintro e w3 ⟨rfl, hr3, ho3⟩
  have R3 : Hid (Rd _ _ _ _) := hr3
  have O3 : Hid (Only _ _ _) := ho3
  clear hr3 ho3
  have B : Hid (Below w.heap.size w w3) := ((((Below.refl _ w).alloc (Nat.le_refl _) _).trans (O2.out.below (Nat.le_refl _))).trans (O3.out.below (Nat.le_refl _)))
  go_wp2_with fail
  refine (end_any _ _ _ _ R3.out).mono ?_
  rintro e w4 ⟨rfl, rfl⟩
  by_cases hz : rdEnd s2 e2 = 0
  · rw [hz] at P ⊢
    clear hz
    go_wp2_with fail
    refine Calls.mono (AV.out _) ?_
    rintro e w5 ⟨rfl, rfl⟩
    cases hv : (vtx u && vtx v)
    · rw [hv] at P
      go_wp2
      go_ret3
      rw [P.out, if_neg (by simp)]
      exact ⟨rfl, B.out⟩
    · rw [hv] at P
      go_wp2
      go_ret3
      rw [P.out, if_pos (by simp)]
      exact ⟨rfl, B.out⟩
  · have hz' : (rdEnd s2 e2 != 0) = true := by rw [bne_iff_ne]; exact hz
    have P' : Hid (prs s = (0, 0, 30)) := by have := P.out; rw [if_neg (fun h => hz h.1)] at this; exact this
    generalize rdEnd s2 e2 = z at *
    clear hz P
    go_wp2
    go_ret3
    rw [P'.out]
    exact ⟨rfl, B.out⟩

theorem ba_app (a b : List UInt8) : (⟨a.toArray⟩ : ByteArray) ++ ⟨b.toArray⟩ = ⟨(a ++ b).toArray⟩ := by
  apply ba_ext
  rw [ByteArray.data_append]
  simp

set_option maxRecDepth 100000 in
set_option maxHeartbeats 1000000 in
theorem rkey_any (u v : Int) (w : World) (hu : vtx u = true) (hv : vtx v = true) : Calls Try.prog 15 #[.int .i64 u, .int .i64 v] w fun e w' => e = .returned (.string ⟨(keyS u v).toArray⟩) ∧ Below w.heap.size w w' := by
  have hc : (vtx u && vtx v) = true := by rw [hu, hv]; rfl
  have E : Hid (keyS u v = beBytes 4 u.toNat ++ beBytes 4 v.toNat) := by unfold keyS; rw [if_pos hc]; rfl
  obtain ⟨n, rfl, hn⟩ := vtx_nat hu
  obtain ⟨m, rfl, hm⟩ := vtx_nat hv
  rw [Int.toNat_natCast, Int.toNat_natCast] at E
  have L1 := beBytes_length 4 n
  have L2 := beBytes_length 4 m
  have P1 : Hid (∀ w, Calls Try.prog 34 #[.int .i64 4, .int .i64 n] w fun r w' => r = .returned (.tuple #[.string ⟨(beBytes 4 n).toArray⟩, .bool (qok 4 n)]) ∧ Below w.heap.size w w') := fun w => qput4 n w (by omega)
  have P2 : Hid (∀ w, Calls Try.prog 34 #[.int .i64 4, .int .i64 m] w fun r w' => r = .returned (.tuple #[.string ⟨(beBytes 4 m).toArray⟩, .bool (qok 4 m)]) ∧ Below w.heap.size w w') := fun w => qput4 m w (by omega)
  generalize beBytes 4 n = X at *
  generalize beBytes 4 m = Y at *
  generalize qok 4 n = x at *
  generalize qok 4 m = y at *
  clear hu hv hc
  go_enter Try.func15, Try.ntmps15
  go_wp2_with fail
  refine Calls.mono (P1.out _) ?_
  rintro e w1 ⟨rfl, hb1⟩
  go_wp2_with fail
  refine Calls.mono (P2.out _) ?_
  rintro e w2 ⟨rfl, hb2⟩
  have k1 := hb1.size
  go_wp2
  go_ret
  rw [E.out, ← ba_app]
  exact ⟨rfl, hb1.trans (hb2.mono k1)⟩

end Go.Proofs.Ytifeeneojlhffaa

/-
  The plain mathematics of a slot's bytes: what Encode, Decode and Pick tell, as functions of lists, and their laws; no program in it.
-/
import Derived.Test.YtalljfckjkbieaaDoorCdLaws
import Derived.Test.YtalljfckjkbieaaDoorCrNums
namespace Go.Proofs.YtalljfckjkbieaaDoor
open Go.RowKit

/-- A root. -/
structure Rt where
  ep : Int
  pg : Int
  ct : Int
  fr : Int
  nx : Int
def rt0 : Rt := ⟨0, 0, 0, 0, 0⟩
/-- A root's cells. -/
def rtV (r : Rt) : Value := .agg #[.int .i64 r.ep, .int .i64 r.pg, .int .i64 r.ct, .int .i64 r.fr, .int .i64 r.nx]

/-- All its numbers fit into four bytes. -/
def Rt.fits (r : Rt) : Bool := putB 4 r.ep && (putB 4 r.pg && (putB 4 r.ct && (putB 4 r.fr && putB 4 r.nx)))
/-- It can be written. -/
def Rt.ok (r : Rt) : Bool := decide (r.ep ≠ 0) && r.fits
theorem putB_four (n : Int) : putB 4 n = true ↔ 0 ≤ n ∧ n < 4294967296 := by simp [putB, szB]
theorem Rt.ok_iff {r : Rt} : r.ok = true ↔ (1 ≤ r.ep ∧ r.ep < 4294967296) ∧ (0 ≤ r.pg ∧ r.pg < 4294967296) ∧ (0 ≤ r.ct ∧ r.ct < 4294967296) ∧ (0 ≤ r.fr ∧ r.fr < 4294967296) ∧ (0 ≤ r.nx ∧ r.nx < 4294967296) := by
  unfold Rt.ok Rt.fits
  simp only [Bool.and_eq_true, decide_eq_true_eq, putB_four]
  omega
theorem rt0_ok : rt0.ok = false := by decide
theorem Rt.ext5 {a b : Rt} (h1 : a.ep = b.ep) (h2 : a.pg = b.pg) (h3 : a.ct = b.ct) (h4 : a.fr = b.fr) (h5 : a.nx = b.nx) : a = b := by
  cases a; cases b; dsimp only at *; subst h1 h2 h3 h4 h5; rfl

/-- The five numbers; what the check is of; a slot's bytes. -/
def headL (r : Rt) : List UInt8 := beBytes 4 r.ep.toNat ++ (beBytes 4 r.pg.toNat ++ (beBytes 4 r.ct.toNat ++ (beBytes 4 r.fr.toNat ++ beBytes 4 r.nx.toNat)))
def bodyL (r : Rt) : List UInt8 := headL r ++ List.replicate 228 0
def slotL (r : Rt) : List UInt8 := bodyL r ++ (beBytes 4 (sumN (bodyL r)) ++ beBytes 4 r.ep.toNat)

theorem headL_length (r : Rt) : (headL r).length = 20 := by simp [headL, beBytes_length]
theorem bodyL_length (r : Rt) : (bodyL r).length = 248 := by rw [bodyL, List.length_append, headL_length, List.length_replicate]
theorem slotL_length (r : Rt) : (slotL r).length = 256 := by rw [slotL, List.length_append, List.length_append, bodyL_length, beBytes_length, beBytes_length]

/-- What Encode answers. -/
def encE (r : Rt) : Int := if r.ok = true then 0 else 1
def encS (r : Rt) : List UInt8 := if r.ok = true then slotL r else []
theorem encE_ok {r : Rt} (h : r.ok = true) : encE r = 0 := by rw [encE, if_pos h]
theorem encE_no {r : Rt} (h : r.ok = false) : encE r = 1 := by rw [encE, h, if_neg (by decide)]
theorem encS_ok {r : Rt} (h : r.ok = true) : encS r = slotL r := by rw [encS, if_pos h]
theorem encS_no {r : Rt} (h : r.ok = false) : encS r = [] := by rw [encS, h, if_neg (by decide)]
theorem encS_length (r : Rt) : (encS r).length ≤ 256 := by
  unfold encS; split
  · exact Nat.le_of_eq (slotL_length r)
  · simp

theorem drop_rs (a b : List UInt8) (k : Nat) (h : a.length = k) : (a ++ b).drop k = b := by subst h; simp
theorem take_rs (a b : List UInt8) (k : Nat) (h : a.length = k) : (a ++ b).take k = a := by subst h; simp

/-- The root that bytes name. -/
def rdE (s : List UInt8) (k : Nat) : Int := (beNat ((s.drop k).take 4) : Nat)
def rdR (s : List UInt8) : Rt := ⟨rdE s 0, rdE s 4, rdE s 8, rdE s 12, rdE s 16⟩
theorem rdE_app (a b c : List UInt8) (n : Int) (k : Nat) (ha : a.length = k) (hb : b = beBytes 4 n.toNat) (h0 : 0 ≤ n) (h1 : n < 4294967296) : rdE (a ++ (b ++ c)) k = n := by
  unfold rdE
  rw [drop_rs _ _ k ha, take_rs _ _ 4 (by rw [hb, beBytes_length]), hb, beNat_bytes 4 _ (by omega)]
  omega
theorem slotL_split (r : Rt) : slotL r = beBytes 4 r.ep.toNat ++ (beBytes 4 r.pg.toNat ++ (beBytes 4 r.ct.toNat ++ (beBytes 4 r.fr.toNat ++ (beBytes 4 r.nx.toNat ++ (List.replicate 228 0 ++ (beBytes 4 (sumN (bodyL r)) ++ beBytes 4 r.ep.toNat)))))) := by
  conv => lhs; rw [slotL]
  conv => lhs; lhs; rw [bodyL, headL]
  simp only [List.append_assoc]
theorem rdR_slot {r : Rt} (h : r.ok = true) : rdR (slotL r) = r := by
  obtain ⟨h1, h2, h3, h4, h5⟩ := Rt.ok_iff.1 h
  refine Rt.ext5 ?_ ?_ ?_ ?_ ?_
  · show rdE _ 0 = _
    rw [slotL_split]
    exact rdE_app [] _ _ _ 0 rfl rfl (by omega) h1.2
  · show rdE _ 4 = _
    rw [slotL_split]
    exact rdE_app (beBytes 4 r.ep.toNat) _ _ _ 4 (beBytes_length _ _) rfl h2.1 h2.2
  · show rdE _ 8 = _
    rw [slotL_split, ← List.append_assoc]
    exact rdE_app (beBytes 4 r.ep.toNat ++ beBytes 4 r.pg.toNat) _ _ _ 8 (by simp [beBytes_length]) rfl h3.1 h3.2
  · show rdE _ 12 = _
    rw [slotL_split, ← List.append_assoc, ← List.append_assoc]
    exact rdE_app ((beBytes 4 r.ep.toNat ++ beBytes 4 r.pg.toNat) ++ beBytes 4 r.ct.toNat) _ _ _ 12 (by simp [beBytes_length]) rfl h4.1 h4.2
  · show rdE _ 16 = _
    rw [slotL_split, ← List.append_assoc, ← List.append_assoc, ← List.append_assoc]
    exact rdE_app (((beBytes 4 r.ep.toNat ++ beBytes 4 r.pg.toNat) ++ beBytes 4 r.ct.toNat) ++ beBytes 4 r.fr.toNat) _ _ _ 16 (by simp [beBytes_length]) rfl h5.1 h5.2
theorem slotL_inj {a b : Rt} (ha : a.ok = true) (hb : b.ok = true) (h : slotL a = slotL b) : a = b := by
  rw [← rdR_slot ha, h, rdR_slot hb]

/-- What Decode answers. -/
def decB (s : List UInt8) : Bool := (rdR s).ok && decide (s = slotL (rdR s))
def decR (s : List UInt8) : Rt := if decB s = true then rdR s else rt0
theorem decB_slot {r : Rt} (h : r.ok = true) : decB (slotL r) = true := by
  unfold decB
  rw [rdR_slot h, h, decide_eq_true rfl]
  rfl
theorem decR_slot {r : Rt} (h : r.ok = true) : decR (slotL r) = r := by rw [decR, if_pos (decB_slot h), rdR_slot h]
theorem decR_no {s : List UInt8} (h : decB s = false) : decR s = rt0 := by rw [decR, h, if_neg (by decide)]
theorem dec_inv {s : List UInt8} (h : decB s = true) : (decR s).ok = true ∧ s = slotL (decR s) := by
  have h' := h
  unfold decB at h'
  rw [Bool.and_eq_true, decide_eq_true_eq] at h'
  rw [decR, if_pos h]
  exact h'
theorem dec_len {s : List UInt8} (h : s.length ≠ 256) : decB s = false := by
  rw [Bool.eq_false_iff]
  intro e
  exact h (by rw [(dec_inv e).2]; exact slotL_length _)
/-- WHAT IS READ, ENCODED AGAIN, TELLS: by whatever reading that reads a slot's bytes as their root. -/
theorem dec_by (R : Rt) (s : List UInt8) (h : ∀ r, r.ok = true → s = slotL r → R = r) : (R.ok = true ∧ encS R = s → decB s = true ∧ decR s = R) ∧ (¬ (R.ok = true ∧ encS R = s) → decB s = false) := by
  constructor
  · rintro ⟨h1, h2⟩
    rw [encS_ok h1] at h2
    subst h2
    exact ⟨decB_slot h1, decR_slot h1⟩
  · intro hn
    rw [Bool.eq_false_iff]
    intro e
    obtain ⟨h1, h2⟩ := dec_inv e
    have := h _ h1 h2
    rw [this] at hn
    exact hn ⟨h1, by rw [encS_ok h1]; exact h2.symm⟩
theorem decR_ep {s : List UInt8} (h : decB s = true) : 1 ≤ (decR s).ep := (Rt.ok_iff.1 (dec_inv h).1).1.1

/-- What the five calls of the reader answer. -/
def q1 (s : ByteArray) : Int × ByteArray × Int := rdInt s 0 4
def q2 (s : ByteArray) : Int × ByteArray × Int := rdInt (q1 s).2.1 (q1 s).2.2 4
def q3 (s : ByteArray) : Int × ByteArray × Int := rdInt (q2 s).2.1 (q2 s).2.2 4
def q4 (s : ByteArray) : Int × ByteArray × Int := rdInt (q3 s).2.1 (q3 s).2.2 4
def q5 (s : ByteArray) : Int × ByteArray × Int := rdInt (q4 s).2.1 (q4 s).2.2 4
def rdP (s : ByteArray) : Rt := ⟨(q1 s).1, (q2 s).1, (q3 s).1, (q4 s).1, (q5 s).1⟩
theorem rdInt4 (n : Int) (r : List UInt8) (h0 : 0 ≤ n) (h1 : n < 4294967296) : rdInt ⟨(beBytes 4 n.toNat ++ r).toArray⟩ 0 4 = (n, ⟨r.toArray⟩, 0) := by
  rw [rdInt_app _ _ 4 (by rw [beBytes_length]; rfl) rfl, beNat_bytes 4 _ (by omega), show ((n.toNat : Nat) : Int) = n by omega]
theorem rdP_slot {s : ByteArray} {r : Rt} (h : r.ok = true) (e : s.data.toList = slotL r) : rdP s = r := by
  obtain ⟨h1, h2, h3, h4, h5⟩ := Rt.ok_iff.1 h
  rw [slotL_split] at e
  generalize List.replicate 228 0 ++ (beBytes 4 (sumN (bodyL r)) ++ beBytes 4 r.ep.toNat) = Z at e
  have es : s = ⟨(beBytes 4 r.ep.toNat ++ (beBytes 4 r.pg.toNat ++ (beBytes 4 r.ct.toNat ++ (beBytes 4 r.fr.toNat ++ (beBytes 4 r.nx.toNat ++ Z))))).toArray⟩ := ba_ext e
  have e1 := rdInt4 r.ep (beBytes 4 r.pg.toNat ++ (beBytes 4 r.ct.toNat ++ (beBytes 4 r.fr.toNat ++ (beBytes 4 r.nx.toNat ++ Z)))) (by omega) h1.2
  rw [← es] at e1
  have e2 := rdInt4 r.pg (beBytes 4 r.ct.toNat ++ (beBytes 4 r.fr.toNat ++ (beBytes 4 r.nx.toNat ++ Z))) h2.1 h2.2
  have e3 := rdInt4 r.ct (beBytes 4 r.fr.toNat ++ (beBytes 4 r.nx.toNat ++ Z)) h3.1 h3.2
  have e4 := rdInt4 r.fr (beBytes 4 r.nx.toNat ++ Z) h4.1 h4.2
  have e5 := rdInt4 r.nx Z h5.1 h5.2
  have f2 : q2 s = rdInt ⟨(beBytes 4 r.pg.toNat ++ (beBytes 4 r.ct.toNat ++ (beBytes 4 r.fr.toNat ++ (beBytes 4 r.nx.toNat ++ Z)))).toArray⟩ 0 4 := by rw [q2, q1, e1]
  rw [e2] at f2
  have f3 : q3 s = rdInt ⟨(beBytes 4 r.ct.toNat ++ (beBytes 4 r.fr.toNat ++ (beBytes 4 r.nx.toNat ++ Z))).toArray⟩ 0 4 := by rw [q3, f2]
  rw [e3] at f3
  have f4 : q4 s = rdInt ⟨(beBytes 4 r.fr.toNat ++ (beBytes 4 r.nx.toNat ++ Z)).toArray⟩ 0 4 := by rw [q4, f3]
  rw [e4] at f4
  have f5 : q5 s = rdInt ⟨(beBytes 4 r.nx.toNat ++ Z).toArray⟩ 0 4 := by rw [q5, f4]
  rw [e5] at f5
  refine Rt.ext5 ?_ ?_ ?_ ?_ ?_
  · show (q1 s).1 = _; rw [q1, e1]
  · show (q2 s).1 = _; rw [f2]
  · show (q3 s).1 = _; rw [f3]
  · show (q4 s).1 = _; rw [f4]
  · show (q5 s).1 = _; rw [f5]

/-- What Pick answers: the root, the error. -/
def pkR (a b : List UInt8) : Rt := if (decR a).ep < (decR b).ep then decR b else decR a
def pkE (a b : List UInt8) : Int := if decB a = false ∧ decB b = false then 70 else 0
theorem pkR_none {a b : List UInt8} (ha : decB a = false) (hb : decB b = false) : pkR a b = rt0 := by
  rw [pkR, decR_no ha, decR_no hb, if_neg (by decide)]
theorem pkE_none {a b : List UInt8} (ha : decB a = false) (hb : decB b = false) : pkE a b = 70 := by rw [pkE, if_pos ⟨ha, hb⟩]
theorem pkE_left {a b : List UInt8} (ha : decB a = true) : pkE a b = 0 := by rw [pkE, if_neg (fun c => by rw [ha] at c; cases c.1)]
theorem pkE_right {a b : List UInt8} (hb : decB b = true) : pkE a b = 0 := by rw [pkE, if_neg (fun c => by rw [hb] at c; cases c.2)]
theorem pkR_left {a b : List UInt8} (h : ¬ (decR a).ep < (decR b).ep) : pkR a b = decR a := by rw [pkR, if_neg h]
theorem pkR_right {a b : List UInt8} (h : (decR a).ep < (decR b).ep) : pkR a b = decR b := by rw [pkR, if_pos h]
theorem pkR_first {a b : List UInt8} (ha : decB a = true) (hb : decB b = false) : pkR a b = decR a := pkR_left (by
  have := decR_ep ha
  rw [decR_no hb]
  show ¬ (decR a).ep < 0
  omega)
theorem pkR_second {a b : List UInt8} (ha : decB a = false) (hb : decB b = true) : pkR a b = decR b := pkR_right (by
  have := decR_ep hb
  rw [decR_no ha]
  show 0 < (decR b).ep
  omega)

/-- TORN OR NOT: with just the first n bytes of b's slot over a's, there is the one root, or the other one, or none. -/
theorem slotL_take4 (r : Rt) : (slotL r).take 4 = beBytes 4 r.ep.toNat := by rw [slotL_split]; exact take_rs _ _ 4 (beBytes_length _ _)
theorem slotL_drop252 (r : Rt) : (slotL r).drop 252 = beBytes 4 r.ep.toNat := by
  rw [slotL, ← List.append_assoc]
  exact drop_rs _ _ 252 (by simp [bodyL_length, beBytes_length])
theorem torn_slot {a b x : Rt} (ha : a.ok = true) (hb : b.ok = true) (hx : x.ok = true) (ne : a.ep ≠ b.ep) (n : Nat) (hn : n ≤ 256) (h : (slotL b).take n ++ (slotL a).drop n = slotL x) : x = a ∨ x = b := by
  have la := slotL_length a
  have lb := slotL_length b
  have lx := slotL_length x
  have ea := (Rt.ok_iff.1 ha).1
  have eb := (Rt.ok_iff.1 hb).1
  have exx := (Rt.ok_iff.1 hx).1
  have inj : ∀ m k : Int, 1 ≤ m ∧ m < 4294967296 → 1 ≤ k ∧ k < 4294967296 → beBytes 4 m.toNat = beBytes 4 k.toNat → m = k := fun m k hm hk e => by
    have := congrArg beNat e
    rw [beNat_bytes 4 _ (by omega), beNat_bytes 4 _ (by omega)] at this
    omega
  have ht : ((slotL b).take n).length = n := by rw [List.length_take]; omega
  have hs4 := slotL_take4 x
  have hs252 := slotL_drop252 x
  have dn : (slotL x).drop n = (slotL a).drop n := by rw [← h]; exact drop_rs _ _ n ht
  have tn : (slotL x).take n = (slotL b).take n := by rw [← h]; exact take_rs _ _ n ht
  by_cases h252 : n ≤ 252
  · have e1 : x.ep = a.ep := by
      apply inj _ _ exx ea
      rw [← hs252, ← slotL_drop252 a, show 252 = n + (252 - n) by omega, ← List.drop_drop, dn, List.drop_drop]
    by_cases h4 : 4 ≤ n
    · exfalso
      apply ne
      rw [← e1]
      apply inj _ _ exx eb
      rw [← hs4, ← slotL_take4 b, show (4 : Nat) = min 4 n by omega, ← List.take_take, ← List.take_take, tn]
    · refine .inl (slotL_inj hx ha ?_)
      rw [← List.take_append_drop n (slotL x), dn, show n = min n 4 by omega, ← List.take_take, hs4, e1, ← slotL_take4 a, List.take_take, show min n 4 = n by omega, List.take_append_drop]
  · have e1 : x.ep = b.ep := by
      apply inj _ _ exx eb
      rw [← hs4, ← slotL_take4 b, show (4 : Nat) = min 4 n by omega, ← List.take_take, ← List.take_take, tn]
    refine .inr (slotL_inj hx hb ?_)
    have db : (slotL x).drop n = (slotL b).drop n := by
      rw [show n = 252 + (n - 252) by omega, ← List.drop_drop, ← List.drop_drop, hs252, slotL_drop252 b, e1]
    rw [← List.take_append_drop n (slotL x), db, tn, List.take_append_drop]
theorem torn_dec {a b : Rt} (ha : a.ok = true) (hb : b.ok = true) (ne : a.ep ≠ b.ep) (n : Nat) (hn : n ≤ 256) (h : decB ((slotL b).take n ++ (slotL a).drop n) = true) : decR ((slotL b).take n ++ (slotL a).drop n) = a ∨ decR ((slotL b).take n ++ (slotL a).drop n) = b :=
  torn_slot ha hb (dec_inv h).1 ne n hn (dec_inv h).2

end Go.Proofs.YtalljfckjkbieaaDoor

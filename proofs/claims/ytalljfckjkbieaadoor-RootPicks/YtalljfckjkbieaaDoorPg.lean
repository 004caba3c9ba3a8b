/-
  The plain mathematics of a page's bytes: what Seal, Open and Check tell, as functions of lists, and their laws; no program in it.
-/
import Derived.Test.YtalljfckjkbieaaDoorCdLaws
import Derived.Test.YtalljfckjkbieaaDoorCrNums
namespace Go.Proofs.YtalljfckjkbieaaDoor
open Go.RowKit

/-- All of a page's bytes behind its check. -/
def restL (n : Nat) (k : UInt8) (b : List UInt8) : List UInt8 :=
  beBytes 4 n ++ ([k] ++ ([0] ++ (beBytes 2 b.length ++ (List.replicate 4 0 ++ (b ++ List.replicate (240 - b.length) 0)))))
/-- A page's bytes. -/
def pageL (n : Nat) (k : UInt8) (b : List UInt8) : List UInt8 := beBytes 4 (sumN (restL n k b)) ++ restL n k b

theorem restL_length (n : Nat) (k : UInt8) (b : List UInt8) (h : b.length ≤ 240) : (restL n k b).length = 252 := by
  simp [restL, beBytes_length]; omega
theorem pageL_length (n : Nat) (k : UInt8) (b : List UInt8) (h : b.length ≤ 240) : (pageL n k b).length = 256 := by
  rw [pageL, List.length_append, beBytes_length, restL_length n k b h]

/-- The error that Seal answers. -/
def sealE (id : Int) (n : Nat) : Int := if 240 < n then 50 else if putB 4 id = true then 0 else 1
/-- The bytes that Seal answers. -/
def sealS (id : Int) (k : UInt8) (b : List UInt8) : List UInt8 := if sealE id b.length = 0 then pageL id.toNat k b else []

theorem putB4 (id : Int) : putB 4 id = true ↔ 0 ≤ id ∧ id < 4294967296 := by simp [putB, szB]
theorem sealE_zero {id : Int} {n : Nat} : sealE id n = 0 ↔ n ≤ 240 ∧ 0 ≤ id ∧ id < 4294967296 := by
  rw [← putB4]
  unfold sealE
  by_cases h : 240 < n
  · rw [if_pos h]; constructor
    · intro e; cases e
    · intro e; omega
  · rw [if_neg h]
    cases hp : putB 4 id
    · simp
    · simp; omega
theorem sealE_cases (id : Int) (n : Nat) : sealE id n = 0 ∨ sealE id n = 1 ∨ sealE id n = 50 := by
  unfold sealE; split
  · exact .inr (.inr rfl)
  · split
    · exact .inl rfl
    · exact .inr (.inl rfl)

/-- The kind, the body and the number that bytes name. -/
def opK (s : List UInt8) : UInt8 := s.getD 8 0
def opN (s : List UInt8) : Nat := beNat ((s.drop 10).take 2)
def opB (s : List UInt8) : List UInt8 := (s.drop 16).take (opN s)
def opI (s : List UInt8) : Nat := beNat ((s.drop 4).take 4)

theorem drop_pg (a b : List UInt8) (k : Nat) (h : a.length = k) : (a ++ b).drop k = b := by subst h; simp
theorem take_pg (a b : List UInt8) (k : Nat) (h : a.length = k) : (a ++ b).take k = a := by subst h; simp

theorem pageL_drop10 (n : Nat) (k : UInt8) (b : List UInt8) : (pageL n k b).drop 10 = beBytes 2 b.length ++ (List.replicate 4 0 ++ (b ++ List.replicate (240 - b.length) 0)) := by
  have e : pageL n k b = (beBytes 4 (sumN (restL n k b)) ++ (beBytes 4 n ++ ([k] ++ [0]))) ++ (beBytes 2 b.length ++ (List.replicate 4 0 ++ (b ++ List.replicate (240 - b.length) 0))) := by
    conv => lhs; rw [pageL]
    conv => lhs; rhs; rw [restL]
    simp only [List.append_assoc]
  rw [e]
  exact drop_pg _ _ 10 (by simp [beBytes_length])
theorem pageL_drop4 (n : Nat) (k : UInt8) (b : List UInt8) : (pageL n k b).drop 4 = restL n k b := drop_pg _ _ 4 (beBytes_length _ _)
theorem pageL_take4 (n : Nat) (k : UInt8) (b : List UInt8) : (pageL n k b).take 4 = beBytes 4 (sumN (restL n k b)) := take_pg _ _ 4 (beBytes_length _ _)

theorem opN_page (n : Nat) (k : UInt8) (b : List UInt8) (h : b.length ≤ 240) : opN (pageL n k b) = b.length := by
  unfold opN
  rw [pageL_drop10, take_pg _ _ 2 (beBytes_length _ _), beNat_bytes 2 _ (by omega)]
theorem opB_page (n : Nat) (k : UInt8) (b : List UInt8) (h : b.length ≤ 240) : opB (pageL n k b) = b := by
  unfold opB
  rw [opN_page n k b h, show 16 = 10 + 6 from rfl, ← List.drop_drop, pageL_drop10, ← List.append_assoc, drop_pg _ _ 6 (by simp [beBytes_length]), take_pg _ _ _ rfl]
theorem opK_page (n : Nat) (k : UInt8) (b : List UInt8) : opK (pageL n k b) = k := by
  have e : pageL n k b = (beBytes 4 (sumN (restL n k b)) ++ beBytes 4 n) ++ (k :: ([0] ++ (beBytes 2 b.length ++ (List.replicate 4 0 ++ (b ++ List.replicate (240 - b.length) 0))))) := by
    conv => lhs; rw [pageL]
    conv => lhs; rhs; rw [restL]
    simp only [List.append_assoc, List.cons_append, List.nil_append]
  unfold opK
  rw [e, List.getD_eq_getElem?_getD, List.getElem?_append_right (by simp [beBytes_length])]
  simp [beBytes_length]
theorem opI_page (n : Nat) (k : UInt8) (b : List UInt8) (h : n < 4294967296) : opI (pageL n k b) = n := by
  unfold opI
  rw [pageL_drop4, restL, take_pg _ _ 4 (beBytes_length _ _), beNat_bytes 4 _ (by omega)]

/-- UNLIKE PAGES HAVE UNLIKE BYTES. -/
theorem pageL_inj {n m : Nat} {k l : UInt8} {b c : List UInt8} (hn : n < 4294967296) (hm : m < 4294967296) (hb : b.length ≤ 240) (hc : c.length ≤ 240) (h : pageL n k b = pageL m l c) : n = m ∧ k = l ∧ b = c := by
  refine ⟨?_, ?_, ?_⟩
  · rw [← opI_page n k b hn, h, opI_page m l c hm]
  · rw [← opK_page n k b, h, opK_page m l c]
  · rw [← opB_page n k b hb, h, opB_page m l c hc]

/-- What Open answers: the kind, the body, the error. -/
def opn (id : Int) (s : List UInt8) : UInt8 × List UInt8 × Int :=
  if sealE id (opB s).length = 0 ∧ s = pageL id.toNat (opK s) (opB s) then (opK s, opB s, 0) else (0, [], 3)

theorem opn_page (id : Int) (k : UInt8) (b : List UInt8) (h : sealE id b.length = 0) : opn id (pageL id.toNat k b) = (k, b, 0) := by
  have hl := (sealE_zero.1 h).1
  unfold opn
  rw [opB_page _ _ _ hl, opK_page, if_pos ⟨h, rfl⟩]
theorem opn_inv {id : Int} {s : List UInt8} (h : (opn id s).2.2 = 0) : ∃ k b, sealE id b.length = 0 ∧ s = pageL id.toNat k b ∧ opn id s = (k, b, 0) := by
  by_cases c : sealE id (opB s).length = 0 ∧ s = pageL id.toNat (opK s) (opB s)
  · exact ⟨_, _, c.1, c.2, by rw [opn, if_pos c]⟩
  · rw [opn, if_neg c] at h; cases h
theorem opn_cases (id : Int) (s : List UInt8) : (∃ k b, sealE id b.length = 0 ∧ s = pageL id.toNat k b ∧ opn id s = (k, b, 0)) ∨ ((∀ k b, sealE id b.length = 0 → s ≠ pageL id.toNat k b) ∧ opn id s = (0, [], 3)) := by
  by_cases c : sealE id (opB s).length = 0 ∧ s = pageL id.toNat (opK s) (opB s)
  · exact .inl ⟨_, _, c.1, c.2, by rw [opn, if_pos c]⟩
  · refine .inr ⟨fun k b h e => c ?_, by rw [opn, if_neg c]⟩
    subst e
    have hl := (sealE_zero.1 h).1
    rw [opB_page _ _ _ hl, opK_page]
    exact ⟨h, rfl⟩

/-- Whether a page's check is right. -/
def chk (s : List UInt8) : Bool := decide (s.length = 256) && decide (beNat (s.take 4) = sumN (s.drop 4))
theorem chk_page (n : Nat) (k : UInt8) (b : List UInt8) (h : b.length ≤ 240) : chk (pageL n k b) = true := by
  unfold chk
  rw [pageL_length n k b h, pageL_take4, pageL_drop4, beNat_bytes 4 _ (sumN_lt _)]
  simp
theorem opn_of_chk {id : Int} {s : List UInt8} (h : chk s = false) : opn id s = (0, [], 3) := by
  rcases opn_cases id s with ⟨k, b, h1, rfl, _⟩ | ⟨_, h⟩
  · rw [chk_page _ _ _ (sealE_zero.1 h1).1] at h; cases h
  · exact h
theorem opn_other {id other : Int} {k : UInt8} {b : List UInt8} (h : sealE id b.length = 0) : (opn other (pageL id.toNat k b)).2.2 = 0 ↔ other = id := by
  constructor
  · intro e
    obtain ⟨l, c, h1, h2, _⟩ := opn_inv e
    have a1 := sealE_zero.1 h
    have a2 := sealE_zero.1 h1
    have := (pageL_inj (by omega) (by omega) a1.1 a2.1 h2).1
    omega
  · rintro rfl
    rw [opn_page _ _ _ h]

/-- FOUR BYTES IN A ROW ARE OTHERS, all within the check or all behind it: the check is not right any more. -/
theorem chk_harm (n : Nat) (kd : UInt8) (bd : List UInt8) (p q : List UInt8) (x0 x1 x2 x3 a b c d : UInt8) (h : ¬(a = 0 ∧ b = 0 ∧ c = 0 ∧ d = 0)) (e : pageL n kd bd = p ++ x0 :: x1 :: x2 :: x3 :: q) (hp : p = [] ∨ 4 ≤ p.length) :
    chk (p ++ (x0 ^^^ a) :: (x1 ^^^ b) :: (x2 ^^^ c) :: (x3 ^^^ d) :: q) = false := by
  rcases hp with rfl | hp
  · have e4 := pageL_take4 n kd bd
    have e5 := pageL_drop4 n kd bd
    rw [e] at e4 e5
    simp at e4 e5
    simp [chk]
    intro _ hs
    rw [e5] at hs
    have hne : [x0 ^^^ a, x1 ^^^ b, x2 ^^^ c, x3 ^^^ d] = [x0, x1, x2, x3] := by
      rw [e4, ← hs, beBytes_nat 4 _ rfl]
    simp at hne
    have z : ∀ x y : UInt8, x ^^^ y = x → y = 0 := fun x y hxy => by
      have : x ^^^ (x ^^^ y) = x ^^^ x := by rw [hxy]
      simpa [← UInt8.xor_assoc] using this
    exact h ⟨z _ _ hne.1, z _ _ hne.2.1, z _ _ hne.2.2.1, z _ _ hne.2.2.2⟩
  · obtain ⟨c4, p', rfl, hc4⟩ : ∃ c4 p', p = c4 ++ p' ∧ c4.length = 4 := ⟨p.take 4, p.drop 4, by simp, by simp; omega⟩
    have e4 := pageL_take4 n kd bd
    have e5 := pageL_drop4 n kd bd
    rw [e, List.append_assoc] at e4 e5
    rw [take_pg _ _ 4 hc4] at e4
    rw [drop_pg _ _ 4 hc4] at e5
    unfold chk
    rw [List.append_assoc, take_pg _ _ 4 hc4, drop_pg _ _ 4 hc4, e4, beNat_bytes 4 _ (sumN_lt _)]
    have := harm p' q x0 x1 x2 x3 a b c d h
    rw [e5] at this
    rw [Bool.and_eq_false_iff]
    exact .inr (decide_eq_false fun hh => this hh.symm)

/-- What the six calls of parts read. -/
def pr1 (s : ByteArray) : ByteArray × ByteArray × Int := rdBytes s 0 8
def pr2 (s : ByteArray) : Int × ByteArray × Int := rdInt (pr1 s).2.1 (pr1 s).2.2 1
def pr3 (s : ByteArray) : ByteArray × ByteArray × Int := rdBytes (pr2 s).2.1 (pr2 s).2.2 1
def pr4 (s : ByteArray) : Int × ByteArray × Int := rdInt (pr3 s).2.1 (pr3 s).2.2 2
def pr5 (s : ByteArray) : ByteArray × ByteArray × Int := rdBytes (pr4 s).2.1 (pr4 s).2.2 4
def pr6 (s : ByteArray) : ByteArray × ByteArray × Int := rdBytes (pr5 s).2.1 (pr5 s).2.2 (pr4 s).1
/-- The kind and the body that parts answers. -/
def prK (s : ByteArray) : UInt8 := UInt8.ofNat (pr2 s).1.toNat
def prB (s : ByteArray) : ByteArray := (pr6 s).1

theorem pr2_byte (s : ByteArray) : (pr2 s).1 = ((prK s).toNat : Int) := by
  have h : 0 ≤ (pr2 s).1 ∧ (pr2 s).1 < 256 := by
    unfold pr2 rdInt
    rw [if_neg (by decide)]
    generalize (pr1 s).2.1 = t
    generalize (pr1 s).2.2 = e
    have hl : (rdBytes t e 1).1.size ≤ 1 := by
      unfold rdBytes
      split
      · simp
      · split
        · simp
        · split
          · simp
          · simp; omega
    have h1 := beNat_lt (rdBytes t e 1).1.data.toList
    have h2 : 256 ^ (rdBytes t e 1).1.data.toList.length ≤ 256 ^ 1 := Nat.pow_le_pow_right (by omega) (by simpa using hl)
    dsimp only
    omega
  unfold prK
  simp
  omega

theorem pr_page (n : Nat) (k : UInt8) (b : List UInt8) (h : b.length ≤ 240) : prK ⟨(pageL n k b).toArray⟩ = k ∧ prB ⟨(pageL n k b).toArray⟩ = ⟨b.toArray⟩ := by
  have e : pageL n k b = (beBytes 4 (sumN (restL n k b)) ++ beBytes 4 n) ++ ([k] ++ ([0] ++ (beBytes 2 b.length ++ (List.replicate 4 0 ++ (b ++ List.replicate (240 - b.length) 0))))) := by
    conv => lhs; rw [pageL]
    conv => lhs; rhs; rw [restL]
    simp only [List.append_assoc]
  have e1 : pr1 ⟨(pageL n k b).toArray⟩ = (⟨(beBytes 4 (sumN (restL n k b)) ++ beBytes 4 n).toArray⟩, ⟨([k] ++ ([0] ++ (beBytes 2 b.length ++ (List.replicate 4 0 ++ (b ++ List.replicate (240 - b.length) 0))))).toArray⟩, 0) := by
    rw [pr1, e]
    exact rdBytes_app _ _ 8 (by simp [beBytes_length])
  have e2 : pr2 ⟨(pageL n k b).toArray⟩ = ((beNat [k] : Int), ⟨([0] ++ (beBytes 2 b.length ++ (List.replicate 4 0 ++ (b ++ List.replicate (240 - b.length) 0)))).toArray⟩, 0) := by
    rw [pr2, e1]
    exact rdInt_app _ _ 1 rfl rfl
  have e3 : pr3 ⟨(pageL n k b).toArray⟩ = (⟨[0].toArray⟩, ⟨(beBytes 2 b.length ++ (List.replicate 4 0 ++ (b ++ List.replicate (240 - b.length) 0))).toArray⟩, 0) := by
    rw [pr3, e2]
    exact rdBytes_app _ _ 1 rfl
  have e4 : pr4 ⟨(pageL n k b).toArray⟩ = ((beNat (beBytes 2 b.length) : Int), ⟨(List.replicate 4 0 ++ (b ++ List.replicate (240 - b.length) 0)).toArray⟩, 0) := by
    rw [pr4, e3]
    exact rdInt_app _ _ 2 (by rw [beBytes_length]; rfl) rfl
  rw [beNat_bytes 2 _ (by omega)] at e4
  have e5 : pr5 ⟨(pageL n k b).toArray⟩ = (⟨(List.replicate 4 0).toArray⟩, ⟨(b ++ List.replicate (240 - b.length) 0).toArray⟩, 0) := by
    rw [pr5, e4]
    exact rdBytes_app _ _ 4 rfl
  have e6 : pr6 ⟨(pageL n k b).toArray⟩ = (⟨b.toArray⟩, ⟨(List.replicate (240 - b.length) 0).toArray⟩, 0) := by
    rw [pr6, e5, e4]
    exact rdBytes_app _ _ _ rfl
  refine ⟨?_, by rw [prB, e6]⟩
  rw [prK, e2]
  simp [beNat]

/-- WHAT IS READ, SEALED AGAIN, TELLS: Open by parts and Seal is Open. -/
theorem opn_parts (id : Int) (s : ByteArray) :
    (if sealE id (prB s).size = 0 ∧ (⟨(sealS id (prK s) (prB s).data.toList).toArray⟩ : ByteArray) = s then (prK s, (prB s).data.toList, (0 : Int)) else (0, [], 3)) = opn id s.data.toList := by
  have hsz : (prB s).size = (prB s).data.toList.length := by simp
  by_cases c : sealE id (prB s).size = 0 ∧ (⟨(sealS id (prK s) (prB s).data.toList).toArray⟩ : ByteArray) = s
  · rw [if_pos c]
    have h0 : sealE id (prB s).data.toList.length = 0 := by rw [← hsz]; exact c.1
    have hs : s.data.toList = pageL id.toNat (prK s) (prB s).data.toList := by
      have := c.2
      rw [sealS, if_pos h0] at this
      conv => lhs; rw [← this]
    rw [hs, opn_page _ _ _ h0]
  · rw [if_neg c]
    rcases opn_cases id s.data.toList with ⟨k, b, h1, h2, h3⟩ | ⟨_, h⟩
    · exfalso
      apply c
      have e : s = ⟨(pageL id.toNat k b).toArray⟩ := by rw [← h2]
      obtain ⟨hk, hb⟩ := pr_page id.toNat k b (sealE_zero.1 h1).1
      rw [e, hk, hb]
      refine ⟨by rw [ba_size]; exact h1, ?_⟩
      rw [sealS, if_pos (by simpa using h1)]
    · exact h.symm

end Go.Proofs.YtalljfckjkbieaaDoor

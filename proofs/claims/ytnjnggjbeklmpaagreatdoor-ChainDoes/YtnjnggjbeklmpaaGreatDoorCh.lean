/-
  The plain mathematics of package chain: a page's body as bytes, what bytes are a body, how many pages a set needs.
-/
import Derived.Test.YtnjnggjbeklmpaaGreatDoorBCode
import Derived.Test.YtnjnggjbeklmpaaGreatDoorBRunsA
namespace Go.Proofs.YtnjnggjbeklmpaaGreatDoor
open Go.RowKit

/-- A run's bytes. -/
def endL (r : Pr) : List UInt8 := beBytes 4 r.1.toNat ++ beBytes 4 r.2.toNat
/-- A run that may be written. -/
def endB (r : Pr) : Bool := decide (0 ≤ r.1 ∧ r.1 ≤ r.2 ∧ r.2 ≤ 4294967295)
def runsL : List Pr → List UInt8
  | [] => []
  | r :: l => endL r ++ runsL l
def nextB (n : Int) : Bool := decide (0 ≤ n ∧ n ≤ 4294967295)
/-- A body that may be written. -/
def bodyB (next : Int) (l : List Pr) : Bool := nextB next && (decide (l.length ≤ 29) && l.all endB)
def bodyL (next : Int) (l : List Pr) : List UInt8 := beBytes 4 next.toNat ++ (beBytes 2 l.length ++ runsL l)
/-- What Body answers. -/
def bodyT (next : Int) (l : List Pr) : List UInt8 := if bodyB next l = true then bodyL next l else []
def bodyE (next : Int) (l : List Pr) : Int := if bodyB next l = true then 0 else 1

theorem endL_length (r : Pr) : (endL r).length = 8 := by unfold endL; rw [List.length_append, beBytes_length, beBytes_length]
theorem runsL_length : ∀ l, (runsL l).length = 8 * l.length
  | [] => rfl
  | r :: l => by rw [runsL, List.length_append, endL_length, runsL_length l, List.length_cons]; omega
theorem runsL_append : ∀ l m, runsL (l ++ m) = runsL l ++ runsL m
  | [], m => rfl
  | r :: l, m => by rw [List.cons_append, runsL, runsL, runsL_append l m, List.append_assoc]
theorem bodyL_length (next : Int) (l : List Pr) : (bodyL next l).length = 6 + 8 * l.length := by
  unfold bodyL; rw [List.length_append, List.length_append, beBytes_length, beBytes_length, runsL_length]; omega

theorem putB4_next (n : Int) : putB 4 n = nextB n := by
  unfold putB nextB
  rw [show szB 4 = true from rfl, Bool.true_and, decide_eq_decide]
  have : ((256 ^ (4 : Int).toNat : Nat) : Int) = 4294967296 := by decide
  omega

theorem bodyB_iff {next : Int} {l : List Pr} : bodyB next l = true ↔ nextB next = true ∧ l.length ≤ 29 ∧ ∀ r ∈ l, endB r = true := by
  unfold bodyB
  rw [Bool.and_eq_true, Bool.and_eq_true, decide_eq_true_iff, List.all_eq_true]
theorem endB_iff {r : Pr} : endB r = true ↔ 0 ≤ r.1 ∧ r.1 ≤ r.2 ∧ r.2 ≤ 4294967295 := by unfold endB; rw [decide_eq_true_iff]
theorem nextB_iff {n : Int} : nextB n = true ↔ 0 ≤ n ∧ n ≤ 4294967295 := by unfold nextB; rw [decide_eq_true_iff]

theorem be_int4 {n : Int} (h : 0 ≤ n) (h2 : n ≤ 4294967295) : ((beNat (beBytes 4 n.toNat) : Nat) : Int) = n := by
  rw [beNat_bytes 4 _ (by have : (256 : Nat) ^ 4 = 4294967296 := by decide
                          omega)]
  omega

/-- What is read as a body, without a look at whether it is one. -/
def rdNext (s : List UInt8) : Int := beNat (s.take 4)
def rdCnt (s : List UInt8) : Nat := beNat ((s.drop 4).take 2)
def rdRun (s : List UInt8) (i : Nat) : Pr := ((beNat ((s.drop (6 + 8 * i)).take 4) : Nat), (beNat ((s.drop (6 + 8 * i + 4)).take 4) : Nat))
def rdRuns (s : List UInt8) : List Pr := (List.range (rdCnt s)).map (rdRun s)
def prsB (s : List UInt8) : Bool := bodyB (rdNext s) (rdRuns s) && (bodyL (rdNext s) (rdRuns s) == s)
/-- What Parse answers. -/
def prs (s : List UInt8) : Int × List Pr × Int := if prsB s = true then (rdNext s, rdRuns s, 0) else (0, [], 3)

theorem runs_at : ∀ (l : List Pr) (i : Nat), i < l.length → ∃ t, (runsL l).drop (8 * i) = endL l[i]! ++ t
  | [], i, h => by simp at h
  | r :: l, 0, _ => ⟨runsL l, by simp [runsL]⟩
  | r :: l, i + 1, h => by
    obtain ⟨t, ht⟩ := runs_at l i (by simpa using h)
    refine ⟨t, ?_⟩
    rw [runsL, show 8 * (i + 1) = (endL r).length + 8 * i by rw [endL_length]; omega, List.drop_length_add_append, ht]
    simp
theorem body_next {next : Int} {l : List Pr} (h : bodyB next l = true) : rdNext (bodyL next l) = next := by
  obtain ⟨h1, _, _⟩ := bodyB_iff.1 h
  obtain ⟨a, b⟩ := nextB_iff.1 h1
  unfold rdNext bodyL
  rw [List.take_left' (beBytes_length 4 _), be_int4 a b]
theorem body_cnt {next : Int} {l : List Pr} (h : bodyB next l = true) : rdCnt (bodyL next l) = l.length := by
  obtain ⟨_, h2, _⟩ := bodyB_iff.1 h
  unfold rdCnt bodyL
  rw [List.drop_left' (beBytes_length 4 _), List.take_left' (beBytes_length 2 _), beNat_bytes 2 _ (by have : (256 : Nat) ^ 2 = 65536 := by decide
                                                                                                      omega)]
theorem body_run {next : Int} {l : List Pr} (h : bodyB next l = true) {i : Nat} (hi : i < l.length) : rdRun (bodyL next l) i = l[i]! := by
  obtain ⟨_, _, h3⟩ := bodyB_iff.1 h
  have hm : l[i]! ∈ l := by rw [getElem!_pos l i hi]; exact List.getElem_mem hi
  obtain ⟨a, b, c⟩ := endB_iff.1 (h3 _ hm)
  obtain ⟨t, ht⟩ := runs_at l i hi
  have e : (bodyL next l).drop (6 + 8 * i) = endL l[i]! ++ t := by
    unfold bodyL
    rw [← List.append_assoc, show 6 + 8 * i = (beBytes 4 next.toNat ++ beBytes 2 l.length).length + 8 * i by rw [List.length_append, beBytes_length, beBytes_length], List.drop_length_add_append, ht]
  have e2 : (bodyL next l).drop (6 + 8 * i + 4) = (endL l[i]! ++ t).drop 4 := by rw [← e, List.drop_drop]
  unfold rdRun
  rw [e2, e]
  unfold endL
  rw [List.append_assoc, List.take_left' (beBytes_length 4 _), List.drop_left' (beBytes_length 4 _), List.take_left' (beBytes_length 4 _), be_int4 a (by omega), be_int4 (by omega) c]
theorem body_runs {next : Int} {l : List Pr} (h : bodyB next l = true) : rdRuns (bodyL next l) = l := by
  unfold rdRuns
  rw [body_cnt h]
  apply List.ext_getElem
  · simp
  · intro i h1 h2
    rw [List.getElem_map, List.getElem_range, body_run h (by simpa using h2), getElem!_pos l i h2]
theorem prs_body {next : Int} {l : List Pr} (h : bodyB next l = true) : prs (bodyL next l) = (next, l, 0) := by
  unfold prs prsB
  rw [body_next h, body_runs h, h]
  simp
theorem prs_cases (s : List UInt8) : (∃ n l, bodyB n l = true ∧ bodyL n l = s ∧ prs s = (n, l, 0)) ∨ ((∀ n l, bodyB n l = true → bodyL n l ≠ s) ∧ prs s = (0, [], 3)) := by
  by_cases h : prsB s = true
  · refine .inl ⟨rdNext s, rdRuns s, ?_, ?_, by unfold prs; rw [if_pos h]⟩
    · exact (Bool.and_eq_true _ _ ▸ h).1
    · exact eq_of_beq (Bool.and_eq_true _ _ ▸ h).2
  · refine .inr ⟨fun n l hb e => h ?_, by unfold prs; rw [if_neg h]⟩
    subst e
    unfold prsB
    rw [body_next hb, body_runs hb, hb]
    simp
/-- Whatever candidate is held against the bytes: if it is what a body has, it is what Parse answers. -/
theorem prs_of (s : List UInt8) (n : Int) (l : List Pr) (h : ∀ n' l', bodyB n' l' = true → bodyL n' l' = s → n = n' ∧ l = l') : prs s = if bodyB n l = true ∧ bodyL n l = s then (n, l, 0) else (0, [], 3) := by
  rcases prs_cases s with ⟨n', l', hb, e, hp⟩ | ⟨hno, hp⟩
  · obtain ⟨rfl, rfl⟩ := h n' l' hb e
    rw [hp, if_pos ⟨hb, e⟩]
  · rw [hp, if_neg (fun c => hno n l c.1 c.2)]
theorem bodyT_nil {next : Int} {l : List Pr} (h : ¬ bodyB next l = true) : bodyT next l = [] := if_neg h
theorem bodyT_yes {next : Int} {l : List Pr} (h : bodyB next l = true) : bodyT next l = bodyL next l := if_pos h
theorem bodyT_length (next : Int) (l : List Pr) : (bodyT next l).length ≤ 238 := by
  unfold bodyT
  split
  · rename_i h
    rw [bodyL_length]
    have := (bodyB_iff.1 h).2.1
    omega
  · simp
theorem prs_runs_length (s : List UInt8) : (prs s).2.1.length ≤ 29 := by
  rcases prs_cases s with ⟨n, l, hb, _, hp⟩ | ⟨_, hp⟩
  · rw [hp]; exact (bodyB_iff.1 hb).2.1
  · rw [hp]; exact Nat.zero_le _

/-- What package chain's parts reads: the reader behind i runs, and these. -/
def partAt (s : ByteArray) (e : Int) : Nat → (ByteArray × Int) × List Pr
  | 0 => ((s, e), [])
  | i + 1 =>
    (((rdInt (rdInt (partAt s e i).1.1 (partAt s e i).1.2 4).2.1 (rdInt (partAt s e i).1.1 (partAt s e i).1.2 4).2.2 4).2.1, (rdInt (rdInt (partAt s e i).1.1 (partAt s e i).1.2 4).2.1 (rdInt (partAt s e i).1.1 (partAt s e i).1.2 4).2.2 4).2.2),
      (partAt s e i).2 ++ [((rdInt (partAt s e i).1.1 (partAt s e i).1.2 4).1, (rdInt (rdInt (partAt s e i).1.1 (partAt s e i).1.2 4).2.1 (rdInt (partAt s e i).1.1 (partAt s e i).1.2 4).2.2 4).1)])
theorem partAt_length (s : ByteArray) (e : Int) : ∀ i, (partAt s e i).2.length = i
  | 0 => rfl
  | i + 1 => by rw [partAt, List.length_append, partAt_length s e i]; rfl
def partN (s : ByteArray) : Int := (rdInt s 0 4).1
def partC (s : ByteArray) : Int × ByteArray × Int := rdInt (rdInt s 0 4).2.1 (rdInt s 0 4).2.2 2
def partL (s : ByteArray) : List Pr := (partAt (partC s).2.1 (partC s).2.2 (min (partC s).1 29).toNat).2

theorem rdInt_be (k : Nat) (n : Nat) (t : List UInt8) (hk : k = 2 ∨ k = 4) (hn : n < 256 ^ k) : rdInt ⟨(beBytes k n ++ t).toArray⟩ 0 k = ((n : Int), ⟨t.toArray⟩, 0) := by
  rw [rdInt_app _ _ _ (by rw [beBytes_length]) (by rcases hk with rfl | rfl <;> rfl), beNat_bytes k n hn]
theorem drop_bang {α : Type} [Inhabited α] {l : List α} {i : Nat} (h : i < l.length) : l.drop i = l[i]! :: l.drop (i + 1) := by
  rw [getElem!_pos l i h]; exact List.drop_eq_getElem_cons h
theorem take_bang {α : Type} [Inhabited α] {l : List α} {i : Nat} (h : i < l.length) : l.take (i + 1) = l.take i ++ [l[i]!] := by
  rw [getElem!_pos l i h]; exact List.take_succ_eq_append_getElem h
theorem partAt_body (l : List Pr) (h : ∀ r ∈ l, endB r = true) : ∀ i, i ≤ l.length → partAt ⟨(runsL l).toArray⟩ 0 i = ((⟨(runsL (l.drop i)).toArray⟩, 0), l.take i)
  | 0, _ => rfl
  | i + 1, hi => by
    have ih := partAt_body l h i (by omega)
    have hm : l[i]! ∈ l := by rw [getElem!_pos l i (by omega)]; exact List.getElem_mem _
    obtain ⟨a, b, c⟩ := endB_iff.1 (h _ hm)
    have p4 : (256 : Nat) ^ 4 = 4294967296 := by decide
    rw [partAt, ih, take_bang (by omega : i < l.length), drop_bang (by omega : i < l.length)]
    generalize l[i]! = r at *
    simp only [runsL, endL]
    rw [List.append_assoc]
    rw [show (4 : Int) = ((4 : Nat) : Int) from rfl, rdInt_be 4 r.1.toNat _ (.inr rfl) (by omega)]
    simp only []
    rw [rdInt_be 4 r.2.toNat _ (.inr rfl) (by omega)]
    simp only []
    rw [show ((r.1.toNat : Nat) : Int) = r.1 by omega, show ((r.2.toNat : Nat) : Int) = r.2 by omega]
theorem part_body {next : Int} {l : List Pr} (h : bodyB next l = true) : partN ⟨(bodyL next l).toArray⟩ = next ∧ partL ⟨(bodyL next l).toArray⟩ = l := by
  obtain ⟨h1, h2, h3⟩ := bodyB_iff.1 h
  obtain ⟨a, b⟩ := nextB_iff.1 h1
  have p4 : (256 : Nat) ^ 4 = 4294967296 := by decide
  have p2 : (256 : Nat) ^ 2 = 65536 := by decide
  have e1 : rdInt ⟨(bodyL next l).toArray⟩ 0 4 = (next, ⟨(beBytes 2 l.length ++ runsL l).toArray⟩, 0) := by
    unfold bodyL
    rw [show (4 : Int) = ((4 : Nat) : Int) from rfl, rdInt_be 4 next.toNat _ (.inr rfl) (by omega), show ((next.toNat : Nat) : Int) = next by omega]
  have e2 : partC ⟨(bodyL next l).toArray⟩ = ((l.length : Int), ⟨(runsL l).toArray⟩, 0) := by
    unfold partC
    rw [e1]
    simp only []
    rw [show (2 : Int) = ((2 : Nat) : Int) from rfl, rdInt_be 2 l.length _ (.inl rfl) (by omega)]
  refine ⟨by unfold partN; rw [e1], ?_⟩
  unfold partL
  rw [e2]
  simp only []
  rw [show (min (l.length : Int) 29).toNat = l.length by omega, partAt_body l h3 _ (Nat.le_refl _), List.take_length]
theorem part_prs (s : ByteArray) : prs s.data.toList = if bodyB (partN s) (partL s) = true ∧ bodyL (partN s) (partL s) = s.data.toList then (partN s, partL s, 0) else (0, [], 3) :=
  prs_of _ _ _ fun n' l' hb e => by
    have es : s = ⟨(bodyL n' l').toArray⟩ := by rw [e]
    obtain ⟨e1, e2⟩ := part_body hb
    rw [← es] at e1 e2
    exact ⟨e1, e2⟩

/-- How many pages so many runs need. -/
def pagesN (n : Nat) : Nat := (n + 28) / 29
theorem pages_le {n k : Nat} (h : ¬ k < pagesN n) : n ≤ 29 * k := by unfold pagesN at h; omega

end Go.Proofs.YtnjnggjbeklmpaaGreatDoor

/-
  A disk that is up, a change of it that takes pages and fills them, and what is read then; plain.
-/
import Derived.Test.YtnngfkjbbedkpaaGreatDoorAlIO
import Derived.Test.YtnngfkjbbedkpaaGreatDoorAlApart
namespace Go.Proofs.YtnngfkjbbedkpaaGreatDoor
open Go.Shelf Go.RowKit Go.Lib Go.Sort
set_option linter.unusedVariables false

theorem getD_mem {m : List Int} {k : Nat} (hk : k < m.length) : m.getD k 0 ∈ m := by
  rw [List.getD_eq_getElem?_getD, List.getElem?_eq_getElem hk]; exact List.getElem_mem hk

def bodyI (i : Nat) : ByteArray := ⟨#[UInt8.ofNat i]⟩
theorem wr_up {n : Nat} {d : Dk} (h : Up n d) (ok : d.Ok) {i : Nat} (h2 : 2 ≤ i) (hi : i < n) (k : UInt8) (s : ByteArray) (hs : s.size ≤ 240) (hw : 0 ≤ d.writes ∧ d.writes < 1000000) :
    (d.wr i k s).1 = 0 ∧ Up n (d.wr i k s).2 ∧ (∀ j, (d.wr i k s).2.now j = if i = j then pageS i k s else d.now j) ∧ (d.wr i k s).2.pend.length = d.pend.length + 1 ∧ (d.wr i k s).2.writes = d.writes + 1 ∧ (d.wr i k s).2.Ok := by
  have e : d.wr i k s = d.put i (pageS i k s) := by
    unfold Dk.wr
    rw [hasP_up h, decide_eq_true (show 2 ≤ (i : Int) ∧ (i : Int) < (n : Int) by omega), if_pos rfl, if_neg (by omega)]
  rw [e]
  rcases h.put i (pageS i k s) with ⟨p1, p2, p3, p4, p5, p6, p7, p8, p9⟩ | ⟨_, _, p3⟩
  · rw [Int.toNat_natCast] at p6
    refine ⟨p1, p5, now_snoc p6 p7, by rw [p6]; simp, by rw [p9]; unfold wrap64; omega, ok.put _ _⟩
  · exact absurd ⟨by omega, by omega, pageS_size _ _ _ hs⟩ p3

def bodyOf (g : Fr) (k : Int) : ByteArray := ((g k).getD c0).body
theorem flush_up {n : Nat} {g : Fr} (hn : n ≤ 16384) : ∀ (L : List Int) (d : Dk), Up n d → d.Ok → (∀ id ∈ L, 2 ≤ id ∧ id < n ∧ ∃ s, g id = some ⟨true, 2, s⟩ ∧ s.size ≤ 240) → L.Nodup → 0 ≤ d.writes → d.writes + L.length < 1000000 →
    (flushL g L d).1 = 0 ∧ Up n (flushL g L d).2 ∧ (flushL g L d).2.pend = [] ∧ (flushL g L d).2.writes = d.writes + L.length ∧ ∀ j : Nat, (flushL g L d).2.now j = if (j : Int) ∈ L then pageS j 2 (bodyOf g j) else d.now j
  | [], d, h, ok, _, _, _, _ => by
    obtain ⟨s1, s2, s3, s4, _⟩ := h.sync ok
    refine ⟨s1, s2, s4, ?_, fun j => by rw [if_neg (by simp)]; exact s3 j⟩
    show d.sync.2.writes = _
    rw [Dk.sync_ok h.dn]; simp
  | id :: L, d, h, ok, hL, hnd, hw, hw2 => by
    obtain ⟨a1, a2, s, a3, a4⟩ := hL id (by simp)
    obtain ⟨i, rfl⟩ : ∃ i : Nat, id = (i : Int) := ⟨id.toNat, by omega⟩
    have e : flush1 g d i = d.wr i 2 s := by unfold flush1; rw [a3]; rfl
    simp only [List.length_cons] at hw2
    obtain ⟨w1, w2, w3, w4, w5, w6⟩ := wr_up h ok (i := i) (by omega) (by omega) 2 s a4 ⟨hw, by omega⟩
    obtain ⟨f1, f2, f3, f4, f5⟩ := flush_up hn L (d.wr i 2 s).2 w2 w6 (fun k hk => hL k (by simp [hk])) (List.nodup_cons.1 hnd).2 (by omega) (by omega)
    have ef : flushL g (i :: L) d = flushL g L (d.wr i 2 s).2 := by rw [flushL, e, if_pos w1]
    rw [ef]
    refine ⟨f1, f2, f3, by rw [f4, w5]; simp; omega, fun j => ?_⟩
    rw [f5 j, w3 j]
    by_cases hj : (j : Int) ∈ L
    · rw [if_pos hj, if_pos (by simp [hj])]
    · rw [if_neg hj]
      by_cases hij : i = j
      · subst hij
        rw [if_pos rfl, if_pos (by simp)]
        unfold bodyOf
        rw [a3]; rfl
      · rw [if_neg hij, if_neg]
        simp only [List.mem_cons, not_or]
        exact ⟨fun c => hij (by omega), hj⟩

theorem alloc_fresh {x : TX} {room : Nat} (he : (x.alloc room).1.2 = 0) : (x.alloc room).2.fresh = putF x.fresh (x.alloc room).1.1 c0 := by
  obtain ⟨fr, p, g, c⟩ := x
  cases fr with
  | cons r s => rfl
  | nil =>
    by_cases hrm : room ≤ p
    · simp [TX.alloc, hrm] at he
    · simp [TX.alloc, hrm]
theorem tput_yes {x : TX} {id : Int} (h : (x.fresh id).isSome = true) (k : UInt8) {s : ByteArray} (hs : s.size ≤ 240) : x.put id k s = (0, ⟨x.free, x.pages, putF x.fresh id ⟨true, k, s⟩, x.cnt + 1⟩) := by
  unfold TX.put; rw [if_pos h, if_neg (by omega)]
theorem Apart.put {x : TX} {mine : List Int} {used : List Pr} (h : Apart x mine used) (id : Int) (k : UInt8) (s : ByteArray) : Apart (x.put id k s).2 mine used := by
  unfold TX.put
  split
  · rename_i hi
    split
    · exact h
    · have e : ∀ q, (putF x.fresh id ⟨true, k, s⟩ q).isSome = (x.fresh q).isSome := fun q => by
        rw [putF_some]
        by_cases hq : q = id
        · rw [hq, hi]; simp
        · simp [hq]
      exact ⟨h.nd, fun q => by rw [h.me q]; show _ ↔ (putF _ _ _ _).isSome = true; rw [e], h.cu, h.ur, fun n hn => ⟨(h.uf n hn).1, (e n).trans (h.uf n hn).2⟩, fun n n2 n3 => by
        show _ ∨ (putF _ _ _ _).isSome = true ∨ _
        rw [e]; exact h.al n n2 n3⟩
  · exact h

/-- What was put stands in the pages that were taken. -/
structure Fill (g : Fr) (ids : List Int) (puts : List ByteArray) : Prop where
  len : puts.length = ids.length
  at' : ∀ j, j < ids.length → g (ids.getD j 0) = some ⟨true, 2, sAt puts j⟩ ∧ (sAt puts j).size ≤ 240
theorem Fill.nil (g : Fr) : Fill g [] [] := ⟨rfl, fun j hj => by simp at hj⟩
theorem Fill.step {g : Fr} {ids : List Int} {puts : List ByteArray} (h : Fill g ids puts) {id : Int} (hid : id ∉ ids) {s : ByteArray} (hs : s.size ≤ 240) : Fill (putF (putF g id c0) id ⟨true, 2, s⟩) (ids ++ [id]) (puts ++ [s]) := by
  refine ⟨by simp [h.len], fun j hj => ?_⟩
  by_cases hjl : j < ids.length
  · have e1 : (ids ++ [id]).getD j 0 = ids.getD j 0 := by simp [List.getD_eq_getElem?_getD, List.getElem?_append_left hjl]
    have e2 : sAt (puts ++ [s]) j = sAt puts j := by unfold sAt; simp [List.getD_eq_getElem?_getD, List.getElem?_append_left (show j < puts.length by rw [h.len]; exact hjl)]
    have hne : ids.getD j 0 ≠ id := fun e => hid (by rw [← e, List.getD_eq_getElem?_getD, List.getElem?_eq_getElem hjl]; exact List.getElem_mem hjl)
    rw [e1, e2]
    unfold putF
    rw [if_neg hne, if_neg hne]
    exact h.at' j hjl
  · have hje : j = ids.length := by simp at hj; omega
    subst hje
    have e1 : (ids ++ [id]).getD ids.length 0 = id := by simp [List.getD_eq_getElem?_getD]
    have e2 : sAt (puts ++ [s]) ids.length = s := by unfold sAt; rw [← h.len]; simp [List.getD_eq_getElem?_getD]
    rw [e1, e2]
    unfold putF
    rw [if_pos rfl]
    exact ⟨rfl, hs⟩
theorem Fill.mem {g : Fr} {ids : List Int} {puts : List ByteArray} (h : Fill g ids puts) {k : Int} (hk : k ∈ ids) : ∃ s, g k = some ⟨true, 2, s⟩ ∧ s.size ≤ 240 := by
  obtain ⟨j, hj, e⟩ := List.getElem_of_mem hk
  obtain ⟨a, b⟩ := h.at' j hj
  rw [List.getD_eq_getElem?_getD, List.getElem?_eq_getElem hj, Option.getD_some, e] at a
  exact ⟨_, a, b⟩

end Go.Proofs.YtnngfkjbbedkpaaGreatDoor

/-
  What package chain's Write and Read do to a disk, as plain functions of it; chains that stand in pages.
-/
import Derived.Test.YtnjnggjbeklmpaaGreatDoorCh
import Derived.Test.YtnjnggjbeklmpaaGreatDoorBFile
namespace Go.Proofs.YtnjnggjbeklmpaaGreatDoor
open Go.RowKit
set_option linter.unusedVariables false

def bodyS (next : Int) (l : List Pr) : ByteArray := ⟨(bodyT next l).toArray⟩
theorem bodyS_size (next : Int) (l : List Pr) : (bodyS next l).size ≤ 238 := by unfold bodyS; rw [ba_size]; exact bodyT_length next l
theorem bodyS_prs {next : Int} {l : List Pr} (h : bodyB next l = true) : prs (bodyS next l).data.toList = (next, l, 0) := by
  unfold bodyS
  rw [show (⟨(bodyT next l).toArray⟩ : ByteArray).data.toList = bodyT next l from rfl, bodyT_yes h, prs_body h]

/-- Write: a disk, the pages that are left, the runs that are left. -/
def wrs : List Int → Dk → List Pr → Int × Dk
  | [], d, _ => (0, d)
  | id :: rest, d, s =>
    if nextB (rest.headD 0) = true then
      (if (d.wr id 3 (bodyS (rest.headD 0) (s.take 29))).1 = 0 then wrs rest (d.wr id 3 (bodyS (rest.headD 0) (s.take 29))).2 (s.drop 29) else d.wr id 3 (bodyS (rest.headD 0) (s.take 29)))
    else (40, d)
def wrOk (l : List Pr) (ids : List Int) : Bool := decide (pagesN (nmL l).length ≤ ids.length) && decide ids.Nodup
def Dk.cw (d : Dk) (l : List Pr) (ids : List Int) : (Int × Int) × Dk :=
  if wrOk l ids = true then (if (wrs ids d (nmL l)).1 = 0 then (ids.headD 0, 0) else (0, (wrs ids d (nmL l)).1), (wrs ids d (nmL l)).2) else ((0, 1), d)

/-- Read: what is met so far, and where the chain goes on; so many rounds at most. -/
def rdC : Nat → Dk → List Int → List Pr → Int → (List Pr × List Int × Int) × Dk
  | 0, d, _, _, _ => (([], [], 3), d)
  | n + 1, d, ids, l, i =>
    if i = 0 then ((l, ids, 0), d) else if i ∈ ids then (([], [], 3), d) else
      if (d.rd i 3).1.2 = 0 then
        (if (prs (d.rd i 3).1.1.data.toList).2.2 = 0 then rdC n (d.rd i 3).2 (ids ++ [i]) (l ++ (prs (d.rd i 3).1.1.data.toList).2.1) (prs (d.rd i 3).1.1.data.toList).1 else (([], [], 3), (d.rd i 3).2))
      else (([], [], if (d.rd i 3).1.2 = 40 then 3 else (d.rd i 3).1.2), (d.rd i 3).2)
def Dk.cr (d : Dk) (head : Int) : (List Pr × List Int × Int) × Dk :=
  ((nmL (rdC (d.sure.length + 1) d [] [] head).1.1, (rdC (d.sure.length + 1) d [] [] head).1.2.1, (rdC (d.sure.length + 1) d [] [] head).1.2.2), (rdC (d.sure.length + 1) d [] [] head).2)

section
variable {n : Nat} {d : Dk} {ids : List Int} {l : List Pr} {i : Int}
theorem rdC_end : rdC (n + 1) d ids l 0 = ((l, ids, 0), d) := by rw [rdC, if_pos rfl]
theorem rdC_again (h0 : i ≠ 0) (h : i ∈ ids) : rdC (n + 1) d ids l i = (([], [], 3), d) := by rw [rdC, if_neg h0, if_pos h]
theorem rdC_err (h0 : i ≠ 0) (h : i ∉ ids) (he : (d.rd i 3).1.2 ≠ 0) : rdC (n + 1) d ids l i = (([], [], if (d.rd i 3).1.2 = 40 then 3 else (d.rd i 3).1.2), (d.rd i 3).2) := by rw [rdC, if_neg h0, if_neg h, if_neg he]
theorem rdC_bad (h0 : i ≠ 0) (h : i ∉ ids) (he : (d.rd i 3).1.2 = 0) (hp : (prs (d.rd i 3).1.1.data.toList).2.2 ≠ 0) : rdC (n + 1) d ids l i = (([], [], 3), (d.rd i 3).2) := by rw [rdC, if_neg h0, if_neg h, if_pos he, if_neg hp]
theorem rdC_step (h0 : i ≠ 0) (h : i ∉ ids) (he : (d.rd i 3).1.2 = 0) (hp : (prs (d.rd i 3).1.1.data.toList).2.2 = 0) : rdC (n + 1) d ids l i = rdC n (d.rd i 3).2 (ids ++ [i]) (l ++ (prs (d.rd i 3).1.1.data.toList).2.1) (prs (d.rd i 3).1.1.data.toList).1 := by rw [rdC, if_neg h0, if_neg h, if_pos he, if_pos hp]
end

/-- Numbers below L that are all unlike are at most L. -/
theorem pig : ∀ (L : Nat) (ids : List Int), ids.Nodup → (∀ i ∈ ids, 0 ≤ i ∧ i < L) → ids.length ≤ L
  | 0, ids, _, h => by
    cases ids with
    | nil => exact Nat.le_refl _
    | cons a t => have := h a (by simp); omega
  | L + 1, ids, hn, h => by
    have h1 := pig L (ids.erase (L : Int)) (hn.erase _) (fun i hi => by
      have hm := (hn.mem_erase_iff).1 hi
      have := h i hm.2
      have hne := hm.1
      omega)
    have h2 : ids.length ≤ (ids.erase (L : Int)).length + 1 := by
      by_cases hm : (L : Int) ∈ ids
      · rw [List.length_erase_of_mem hm]; omega
      · rw [List.erase_of_not_mem hm]; omega
    omega
/-- Pages of a disk that are all unlike. -/
def PgIds (L : Nat) (ids : List Int) : Prop := ids.Nodup ∧ ∀ i ∈ ids, 2 ≤ i ∧ i < L
theorem PgIds.nil (L : Nat) : PgIds L [] := ⟨List.nodup_nil, fun _ h => by cases h⟩
theorem PgIds.le {L : Nat} {ids : List Int} (h : PgIds L ids) : ids.length ≤ L - 2 := by
  have h1 := pig (L - 2) (ids.map fun i => i - 2) (by
    refine List.Pairwise.map _ (fun a b hab => ?_) h.1
    omega) (fun i hi => by
    obtain ⟨j, hj, rfl⟩ := List.mem_map.1 hi
    have := h.2 j hj
    omega)
  rwa [List.length_map] at h1
theorem nodup_snoc {ids : List Int} {i : Int} : (ids ++ [i]).Nodup ↔ ids.Nodup ∧ i ∉ ids := by
  unfold List.Nodup
  rw [List.pairwise_append]
  constructor
  · rintro ⟨h1, _, h3⟩
    exact ⟨h1, fun hm => h3 i hm i (by simp) rfl⟩
  · rintro ⟨h1, h2⟩
    refine ⟨h1, by simp, fun a ha b hb => ?_⟩
    rw [List.mem_singleton.1 hb]
    rintro rfl
    exact h2 ha
theorem PgIds.snoc {L : Nat} {ids : List Int} (h : PgIds L ids) {i : Int} (hi : i ∉ ids) (h2 : 2 ≤ i) (h3 : i < L) : PgIds L (ids ++ [i]) :=
  ⟨nodup_snoc.2 ⟨h.1, hi⟩, fun j hj => by
    rcases List.mem_append.1 hj with hj | hj
    · exact h.2 j hj
    · rw [List.mem_singleton.1 hj]; exact ⟨h2, h3⟩⟩
theorem Dk.rd_has {d : Dk} {i : Int} {k : UInt8} (h : (d.rd i k).1.2 = 0) : 2 ≤ i ∧ i < d.sure.length := by
  unfold Dk.rd at h
  split at h
  · rename_i hp; exact of_decide_eq_true hp
  · exact absurd h (show (40 : Int) ≠ 0 by decide)

/-- A chain stands in these pages. -/
def Chained (d : Dk) : List Int → List Pr → Prop
  | [], _ => True
  | id :: rest, s => (2 ≤ id ∧ id < d.sure.length) ∧ d.now id.toNat = pageS id 3 (bodyS (rest.headD 0) (s.take 29)) ∧ Chained d rest (s.drop 29)
theorem Chained.congr {d d' : Dk} (hs : d'.sure.length = d.sure.length) : ∀ {ids : List Int} {s : List Pr}, (∀ id ∈ ids, d'.now id.toNat = d.now id.toNat) → Chained d ids s → Chained d' ids s
  | [], _, _, _ => trivial
  | id :: rest, s, h, ⟨h1, h2, h3⟩ => ⟨by rw [hs]; exact h1, (h id (by simp)).trans h2, Chained.congr hs (fun j hj => h j (by simp [hj])) h3⟩

theorem headD_ok {rest : List Int} {n : Nat} (h : ∀ id ∈ rest, 2 ≤ id ∧ id < (n : Int)) (hn : n ≤ 16384) : nextB (rest.headD 0) = true := by
  cases rest with
  | nil => rfl
  | cons a t =>
    have := h a (by simp)
    exact nextB_iff.2 ⟨by show 0 ≤ a; omega, by show a ≤ 4294967295; omega⟩
theorem wr_good {n : Nat} {d : Dk} (h : Up n d) {i : Int} (h2 : 2 ≤ i) (h3 : i < n) (k : UInt8) {s : ByteArray} (hs : s.size ≤ 240) (hw : 0 ≤ d.writes) (hw2 : d.writes ≤ 1000000) :
    (d.wr i k s).1 = 0 ∧ Up n (d.wr i k s).2 ∧ (d.wr i k s).2.pend = d.pend ++ [(i.toNat, pageS i k s)] ∧ (d.wr i k s).2.sure = d.sure ∧ (d.wr i k s).2.reads = d.reads ∧ (d.wr i k s).2.writes = d.writes + 1 := by
  unfold Dk.wr
  rw [hasP_up h, decide_eq_true ⟨h2, h3⟩, if_pos rfl, if_neg (by omega)]
  rcases h.put i (pageS i k s) with ⟨p1, p2, p3, p4, p5, p6, p7, p8, p9⟩ | ⟨_, _, p3⟩
  · refine ⟨p1, p5, p6, p7, p8, ?_⟩
    rw [p9]
    unfold wrap64
    omega
  · exact absurd ⟨by omega, h3, pageS_size _ _ _ hs⟩ p3
theorem wr_range {n : Nat} {d : Dk} (h : Up n d) {i : Int} (h2 : ¬ (2 ≤ i ∧ i < n)) (k : UInt8) (s : ByteArray) : d.wr i k s = (40, d) := by
  unfold Dk.wr
  rw [hasP_up h, decide_eq_false h2, if_neg (by decide)]

/-- A chain is written into pages that are all unlike, on a disk that is up. -/
theorem wrs_ok {n : Nat} (hn : n ≤ 16384) : ∀ (ids : List Int) (d : Dk) (s : List Pr), Up n d → ids.Nodup → (∀ id ∈ ids, 2 ≤ id ∧ id < (n : Int)) → 0 ≤ d.writes → d.writes + ids.length ≤ 1000000 →
    (wrs ids d s).1 = 0 ∧ Up n (wrs ids d s).2 ∧ Chained (wrs ids d s).2 ids s ∧ (∀ j : Nat, (j : Int) ∉ ids → (wrs ids d s).2.now j = d.now j) ∧ (wrs ids d s).2.writes = d.writes + ids.length ∧ (wrs ids d s).2.reads = d.reads ∧ (wrs ids d s).2.pend.length = d.pend.length + ids.length
  | [], d, s, hu, _, _, _, _ => ⟨rfl, hu, trivial, fun _ _ => rfl, by simp [wrs], rfl, rfl⟩
  | id :: rest, d, s, hu, hnd, hr, hw, hw2 => by
    obtain ⟨hni, hnr⟩ := List.nodup_cons.1 hnd
    obtain ⟨h2, h3⟩ := hr id (by simp)
    rw [List.length_cons] at hw2
    obtain ⟨g1, g2, g3, g4, g5, g6⟩ := wr_good hu h2 h3 3 (s := bodyS (rest.headD 0) (s.take 29)) (Nat.le_trans (bodyS_size _ _) (by decide)) hw (by omega)
    rw [wrs, if_pos (headD_ok (fun j hj => hr j (by simp [hj])) hn), if_pos g1]
    obtain ⟨i1, i2, i3, i4, i5, i6, i7⟩ := wrs_ok hn rest (d.wr id 3 (bodyS (rest.headD 0) (s.take 29))).2 (s.drop 29) g2 hnr (fun j hj => hr j (by simp [hj])) (by omega) (by omega)
    have now1 : ∀ j : Nat, (d.wr id 3 (bodyS (rest.headD 0) (s.take 29))).2.now j = if id.toNat = j then pageS id 3 (bodyS (rest.headD 0) (s.take 29)) else d.now j := fun j => now_snoc g3 g4 j
    generalize wrs rest (d.wr id 3 (bodyS (rest.headD 0) (s.take 29))).2 (s.drop 29) = R at *
    refine ⟨i1, i2, ⟨⟨h2, by rw [i2.sl]; exact h3⟩, ?_, i3⟩, fun j hj => ?_, ?_, by rw [i6, g5], ?_⟩
    · rw [i4 id.toNat (by rw [show ((id.toNat : Nat) : Int) = id by omega]; exact hni), now1, if_pos rfl]
    · rw [List.mem_cons, not_or] at hj
      rw [i4 j hj.2, now1, if_neg (by omega)]
    · rw [i5, g6, List.length_cons]; omega
    · rw [i7, g3, List.length_append, List.length_cons]; simp; omega
/-- Where a page is none, that is the error. -/
theorem wrs_bad {n : Nat} (hn : n ≤ 16384) : ∀ (ids : List Int) (d : Dk) (s : List Pr), Up n d → 0 ≤ d.writes → d.writes + ids.length ≤ 1000000 → (∃ id ∈ ids, ¬ (2 ≤ id ∧ id < (n : Int))) → (wrs ids d s).1 = 40
  | [], d, s, _, _, _, ⟨_, h, _⟩ => by cases h
  | id :: rest, d, s, hu, hw, hw2, hb => by
    rw [wrs]
    split
    · by_cases hi : 2 ≤ id ∧ id < (n : Int)
      · rw [List.length_cons] at hw2
        obtain ⟨g1, g2, g3, g4, g5, g6⟩ := wr_good hu hi.1 hi.2 3 (s := bodyS (rest.headD 0) (s.take 29)) (Nat.le_trans (bodyS_size _ _) (by decide)) hw (by omega)
        rw [if_pos g1]
        refine wrs_bad hn rest _ _ g2 (by omega) (by omega) ?_
        obtain ⟨j, hj, hjb⟩ := hb
        rcases List.mem_cons.1 hj with rfl | hj
        · exact absurd hi hjb
        · exact ⟨j, hj, hjb⟩
      · rw [wr_range hu hi]
        rfl
    · rfl

theorem Up.rdpage {n : Nat} {d : Dk} (h : Up n d) (hn : n ≤ 16384) {i : Int} (h2 : 2 ≤ i) (h3 : i < n) (k : UInt8) : (d.rd i k).1 = openE k (opn i (d.now i.toNat).data.toList) ∧ Up n (d.rd i k).2 ∧ (∀ j, (d.rd i k).2.now j = d.now j) ∧ (d.rd i k).2.sure = d.sure ∧ (d.rd i k).2.reads = wrap64 (d.reads + 1) := by
  obtain ⟨m, rfl⟩ : ∃ m : Nat, i = m := ⟨i.toNat, by omega⟩
  obtain ⟨e1, e2, e3, e4, e5⟩ := h.rd m k (by omega) (by omega)
  refine ⟨e1, e2, e3, e5, ?_⟩
  unfold Dk.rd
  rw [hasP_up h, decide_eq_true ⟨h2, h3⟩, if_pos rfl, Dk.get_ok h.dn (Dk.has_nat (by rw [h.sl]; omega))]

/-- A chain that stands is read. -/
theorem rdC_chain {n : Nat} (hn : n ≤ 16384) : ∀ (ids : List Int) (m : Nat) (d : Dk) (pre : List Int) (l s : List Pr), Up n d → Chained d ids s → (pre ++ ids).Nodup → (∀ r ∈ s, endB r = true) → s.length ≤ 29 * ids.length → ids.length + 1 ≤ m →
    (∀ id ∈ ids, id ≤ 4294967295) → ∃ d', rdC m d pre l (ids.headD 0) = ((l ++ s, pre ++ ids, 0), d') ∧ Up n d' ∧ (∀ j, d'.now j = d.now j)
  | [], m, d, pre, l, s, hu, hc, hnd, hs, hl, hm, _ => by
    obtain ⟨m, rfl⟩ : ∃ k, m = k + 1 := ⟨m - 1, by simp at hm; omega⟩
    obtain rfl : s = [] := List.length_eq_zero_iff.1 (by simpa using hl)
    exact ⟨d, by rw [List.headD_nil, rdC_end]; simp, hu, fun _ => rfl⟩
  | id :: rest, m, d, pre, l, s, hu, ⟨⟨h2, h3⟩, hnow, hc⟩, hnd, hs, hl, hm, hle => by
    obtain ⟨m, rfl⟩ : ∃ k, m = k + 1 := ⟨m - 1, by simp at hm; omega⟩
    rw [hu.sl] at h3
    obtain ⟨r1, r2, r3, r4, _⟩ := hu.rdpage hn h2 h3 3
    have hb : bodyB (rest.headD 0) (s.take 29) = true := bodyB_iff.2 ⟨by
      cases rest with
      | nil => rfl
      | cons a t =>
        have := hle a (by simp)
        have h4 := hc.1.1
        exact nextB_iff.2 ⟨by show 0 ≤ a; omega, this⟩, by simp; omega, fun r hr => hs r (List.mem_of_mem_take hr)⟩
    have hop : (d.rd id 3).1 = (bodyS (rest.headD 0) (s.take 29), 0) := by
      obtain ⟨k, rfl⟩ : ∃ k : Nat, id = k := ⟨id.toNat, by omega⟩
      rw [r1, hnow]
      exact open_page k (by omega) 3 _ (Nat.le_trans (bodyS_size _ _) (by decide))
    have hpr : prs (d.rd id 3).1.1.data.toList = (rest.headD 0, s.take 29, 0) := by rw [hop]; exact bodyS_prs hb
    have hni : id ∉ pre := fun hm => by
      have := (List.pairwise_append.1 hnd).2.2 id hm id (by simp)
      exact this rfl
    rw [List.headD_cons, rdC_step (by omega) hni (by rw [hop]) (by rw [hpr]), hpr]
    obtain ⟨d', e1, e2, e3⟩ := rdC_chain hn rest m (d.rd id 3).2 (pre ++ [id]) (l ++ s.take 29) (s.drop 29) r2 (hc.congr (by rw [r4]) (fun j _ => r3 _)) (by rw [List.append_assoc]; exact hnd) (fun r hr => hs r (List.mem_of_mem_drop hr)) (by simp at hl ⊢; omega) (by simp at hm; omega) (fun j hj => hle j (by simp [hj]))
    refine ⟨d', ?_, e2, fun j => (e3 j).trans (r3 j)⟩
    rw [e1, List.append_assoc, List.take_append_drop, List.append_assoc]
    rfl
theorem cn_endB {s : List Pr} (h : Cn s) : ∀ r ∈ s, endB r = true := fun r hr => endB_iff.2 (h.1 r hr)
theorem cr_chain {n : Nat} (hn : n ≤ 16384) {d : Dk} {ids : List Int} {s : List Pr} (hu : Up n d) (hc : Chained d ids s) (hnd : ids.Nodup) (hr : ∀ id ∈ ids, 2 ≤ id ∧ id < (n : Int)) (hs : Cn s) (hl : s.length ≤ 29 * ids.length) :
    ∃ d', d.cr (ids.headD 0) = ((s, ids, 0), d') ∧ Up n d' ∧ (∀ j, d'.now j = d.now j) := by
  have hlen := PgIds.le (L := n) ⟨hnd, hr⟩
  obtain ⟨d', e1, e2, e3⟩ := rdC_chain hn ids (d.sure.length + 1) d [] [] s hu hc (by simpa using hnd) (cn_endB hs) hl (by rw [hu.sl]; omega) (fun j hj => by have := hr j hj; omega)
  refine ⟨d', ?_, e2, e3⟩
  unfold Dk.cr
  rw [e1]
  simp only [List.nil_append]
  rw [nmL_of_cn hs]

/-- Whatever stands in the pages of a disk that is up: each page is read once at most, and a chain that comes back is told. -/
theorem rdC_up {n : Nat} (hn : n ≤ 16384) : ∀ (m : Nat) (d : Dk) (ids : List Int) (l : List Pr) (i : Int), Up n d → PgIds n ids → 0 ≤ d.reads → d.reads + (n : Int) ≤ 1000000 + ids.length →
    ∃ k : Nat, (rdC m d ids l i).2.reads = d.reads + k ∧ ids.length + k ≤ n - 2 ∧
      (((rdC m d ids l i).1.2.2 = 3 ∧ (rdC m d ids l i).1.2.1 = [] ∧ (rdC m d ids l i).1.1 = []) ∨ ((rdC m d ids l i).1.2.2 = 0 ∧ (rdC m d ids l i).1.2.1.length ≤ n - 2 ∧ ((rdC m d ids l i).1.2.1 = [] ↔ i = 0 ∧ ids = [])))
  | 0, d, ids, l, i, hu, hp, hr, hr2 => ⟨0, by simp [rdC], by have := hp.le; omega, .inl ⟨rfl, rfl, rfl⟩⟩
  | m + 1, d, ids, l, i, hu, hp, hr, hr2 => by
    by_cases h0 : i = 0
    · subst h0
      rw [rdC_end]
      exact ⟨0, by simp, by have := hp.le; omega, .inr ⟨rfl, hp.le, by simp⟩⟩
    · by_cases hi : i ∈ ids
      · rw [rdC_again h0 hi]
        exact ⟨0, by simp, by have := hp.le; omega, .inl ⟨rfl, rfl, rfl⟩⟩
      · by_cases hh : 2 ≤ i ∧ i < (n : Int)
        · obtain ⟨r1, r2, r3, r4, r5⟩ := hu.rdpage hn hh.1 hh.2 3
          have hp2 := hp.snoc hi hh.1 hh.2
          have hle := hp2.le
          rw [List.length_append] at hle
          simp only [List.length_singleton] at hle
          have hrd : (d.rd i 3).2.reads = d.reads + 1 := by rw [r5]; unfold wrap64; omega
          by_cases he : (d.rd i 3).1.2 = 0
          · by_cases hq : (prs (d.rd i 3).1.1.data.toList).2.2 = 0
            · rw [rdC_step h0 hi he hq]
              obtain ⟨k, k1, k2, k3⟩ := rdC_up hn m (d.rd i 3).2 (ids ++ [i]) (l ++ (prs (d.rd i 3).1.1.data.toList).2.1) (prs (d.rd i 3).1.1.data.toList).1 r2 hp2 (by omega) (by rw [List.length_append]; simp; omega)
              refine ⟨k + 1, by rw [k1, hrd]; omega, by rw [List.length_append] at k2; simp at k2; omega, ?_⟩
              rcases k3 with k3 | ⟨k3, k4, k5⟩
              · exact .inl k3
              · refine .inr ⟨k3, k4, ?_⟩
                rw [k5]
                constructor
                · rintro ⟨_, h⟩; simp at h
                · rintro ⟨h, _⟩; exact absurd h h0
            · rw [rdC_bad h0 hi he hq]
              exact ⟨1, by rw [hrd]; rfl, by omega, .inl ⟨rfl, rfl, rfl⟩⟩
          · rw [rdC_err h0 hi he]
            refine ⟨1, by rw [hrd]; rfl, by omega, .inl ⟨?_, rfl, rfl⟩⟩
            have hE : (openE 3 (opn i (d.now i.toNat).data.toList)).2 = 0 ∨ (openE 3 (opn i (d.now i.toNat).data.toList)).2 = 3 := by
              unfold openE
              split
              · exact .inl rfl
              · exact .inr rfl
            rw [← r1] at hE
            rcases hE with hE | hE
            · exact absurd hE he
            · show (if (d.rd i 3).1.2 = 40 then (3 : Int) else (d.rd i 3).1.2) = 3
              rw [hE]; rfl
        · have e : d.rd i 3 = ((ByteArray.empty, 40), d) := by
            unfold Dk.rd
            rw [hasP_up hu, decide_eq_false hh, if_neg (by decide)]
          rw [rdC_err h0 hi (by rw [e]; exact (show (40 : Int) ≠ 0 by decide)), e]
          exact ⟨0, by simp, by have := hp.le; omega, .inl ⟨rfl, rfl, rfl⟩⟩

/-- The pages that are read, one behind the other: what is asked of a walk. -/
theorem rdC_len : ∀ (m : Nat) (d : Dk) (ids : List Int) (l : List Pr) (i : Int), (rdC m d ids l i).1.1.length ≤ l.length + 29 * m ∧ (rdC m d ids l i).2.sure = d.sure ∧ (rdC m d ids l i).2.pend = d.pend ∧ (rdC m d ids l i).1.2.1.length ≤ ids.length + m
  | 0, d, ids, l, i => ⟨by simp [rdC], rfl, rfl, by simp [rdC]⟩
  | m + 1, d, ids, l, i => by
    rw [rdC]
    have hs := d.rd_same i 3
    split
    · exact ⟨by show l.length ≤ _; omega, rfl, rfl, by show ids.length ≤ _; omega⟩
    · split
      · exact ⟨by simp, rfl, rfl, by simp⟩
      · split
        · split
          · obtain ⟨a1, a2, a3, a4⟩ := rdC_len m (d.rd i 3).2 (ids ++ [i]) (l ++ (prs (d.rd i 3).1.1.data.toList).2.1) (prs (d.rd i 3).1.1.data.toList).1
            have h29 := prs_runs_length (d.rd i 3).1.1.data.toList
            rw [List.length_append] at a1 a4
            simp only [List.length_singleton] at a4
            exact ⟨by omega, a2.trans hs.1, a3.trans hs.2, by omega⟩
          · exact ⟨by simp, hs.1, hs.2, by simp⟩
        · exact ⟨by simp, hs.1, hs.2, by simp⟩
theorem wrs_len : ∀ (ids : List Int) (d : Dk) (s : List Pr), (wrs ids d s).2.sure = d.sure ∧ (wrs ids d s).2.pend.length ≤ d.pend.length + ids.length
  | [], d, s => ⟨rfl, Nat.le_refl _⟩
  | id :: rest, d, s => by
    have hs := d.wr_sure id 3 (bodyS (rest.headD 0) (s.take 29))
    rw [wrs, List.length_cons]
    split
    · split
      · obtain ⟨a1, a2⟩ := wrs_len rest (d.wr id 3 (bodyS (rest.headD 0) (s.take 29))).2 (s.drop 29)
        exact ⟨a1.trans hs.1, by omega⟩
      · exact ⟨hs.1, by omega⟩
    · exact ⟨rfl, by show d.pend.length ≤ _; omega⟩

end Go.Proofs.YtnjnggjbeklmpaaGreatDoor

/-
  Pages that are free, fresh, or in use: apart, and together all; plain.
-/
import Derived.Test.YtnngfkjbbedkpaaGreatDoorAlAct
namespace Go.Proofs.YtnngfkjbbedkpaaGreatDoor
open Go.Shelf Go.RowKit Go.Lib Go.Sort
set_option linter.unusedVariables false

/-- What holds all the time: mine are the fresh ones, each once; used is apart from them and from what is free; and together they are all. -/
structure Apart (x : TX) (mine : List Int) (used : List Pr) : Prop where
  nd : mine.Nodup
  me : ∀ k, k ∈ mine ↔ (x.fresh k).isSome = true
  cu : Cn used
  ur : ∀ n, InR used n → 2 ≤ n ∧ n < x.pages
  uf : ∀ n, InR used n → ¬ InR x.free n ∧ (x.fresh n).isSome = false
  al : ∀ n : Int, 2 ≤ n → n < x.pages → InR x.free n ∨ (x.fresh n).isSome = true ∨ InR used n

theorem Apart.new (fr : List Pr) (pages : Int) {room : Nat} (h : 2 ≤ room) (h2 : room ≤ 16384) : Apart (TX.new fr pages room) [] (mnL [(2, (pagesOf pages room : Int) - 1)] fr) := by
  obtain ⟨p2, p3⟩ := pagesOf_ok pages h
  refine ⟨List.nodup_nil, fun k => by simp [TX.new], mnL_cn _ _, fun n hn => ?_, fun n hn => ⟨fun hf => ?_, rfl⟩, fun n n2 n3 => ?_⟩
  · have := (inR_one _ _).1 ((mnL_in _ _ n).1 hn).1
    show _ ∧ n < (pagesOf pages room : Int)
    simp only at this
    omega
  · exact ((mnL_in _ _ n).1 hn).2 ((meL_in _ _ n).1 hf).1
  · have n4 : n < (pagesOf pages room : Int) := n3
    have hin : InR [(2, (pagesOf pages room : Int) - 1)] n := (inR_one _ _).2 (by simp only; omega)
    by_cases hf : InR fr n
    · exact .inl ((meL_in _ _ n).2 ⟨hf, hin⟩)
    · exact .inr (.inr ((mnL_in _ _ n).2 ⟨hin, hf⟩))

/-- A page that is handed out: new, not in use, and there is room for it. -/
theorem Apart.alloc {x : TX} {mine : List Int} {used : List Pr} {room : Nat} (h : Apart x mine used) (ok : x.Ok room) (hr : room ≤ 16384) (he : (x.alloc room).1.2 = 0) :
    (x.alloc room).1.1 ∉ mine ∧ hasB used (x.alloc room).1.1 = false ∧ 2 ≤ (x.alloc room).1.1 ∧ (x.alloc room).1.1 < room ∧ Apart (x.alloc room).2 (mine ++ [(x.alloc room).1.1]) used := by
  obtain ⟨fr, p, g, c⟩ := x
  cases fr with
  | cons r s =>
    have hin : InR (r :: s) r.1 := ok.cn.head_in (Int.le_refl _) (cn_cons.1 ok.cn).1.2.1
    have b := ok.fr r.1 hin
    have dj := ok.dj r.1 hin
    obtain ⟨_, _, _, _, d2⟩ := dropF_ok ok.cn
    have hp := ok.pr
    simp only at b dj hp
    have hm : r.1 ∉ mine := fun e => by have := (h.me r.1).1 e; simp only at this; rw [dj] at this; cases this
    have hu : ¬ InR used r.1 := fun e => (h.uf _ e).1 hin
    refine ⟨hm, hasB_no hu, b.1, by show r.1 < (room : Int); omega, List.nodup_append.2 ⟨h.nd, by simp, fun a ha b hb => ?_⟩, fun k => ?_, h.cu, h.ur, fun n hn => ⟨fun hf => ?_, ?_⟩, fun n n2 n3 => ?_⟩
    · simp at hb; subst hb; exact fun e => hm (e ▸ ha)
    · show k ∈ mine ++ [r.1] ↔ (putF g r.1 c0 k).isSome = true
      have := h.me k
      simp only at this
      rw [List.mem_append, putF_some, this]
      simp
      exact Or.comm
    · exact (h.uf n hn).1 ((d2 n).1 hf).1
    · show (putF g r.1 c0 n).isSome = false
      have := (h.uf n hn).2
      simp only at this
      rw [putF_some, this]
      have : n ≠ r.1 := fun e => hu (e ▸ hn)
      simp [this]
    · show InR (dropF (r :: s)) n ∨ (putF g r.1 c0 n).isSome = true ∨ _
      rw [putF_some]
      rcases h.al n n2 n3 with e | e | e
      · by_cases hn : n = r.1
        · right; left; simp [hn]
        · left
          have := ok.cn.head_le e
          exact (d2 n).2 ⟨e, by omega⟩
      · right; left; simp only at e; simp [e]
      · exact .inr (.inr e)
  | nil =>
    by_cases hrm : room ≤ p
    · simp [TX.alloc, hrm] at he
    · have e1 : TX.alloc ⟨[], p, g, c⟩ room = (((p : Int), 0), ⟨[], p + 1, putF g p c0, c + 1⟩) := by simp [TX.alloc, hrm]
      rw [e1]
      have h2 := ok.p2
      simp only at h2
      have hgp : (g p).isSome = false := by
        cases hh : (g p).isSome with
        | false => rfl
        | true => have := ok.fs p hh; simp only at this; omega
      have hm : (p : Int) ∉ mine := fun e => by have := (h.me p).1 e; simp only at this; rw [hgp] at this; cases this
      have hu : ¬ InR used p := fun e => by have := h.ur _ e; simp only at this; omega
      refine ⟨hm, hasB_no hu, by show (2 : Int) ≤ (p : Int); omega, by show (p : Int) < (room : Int); omega, List.nodup_append.2 ⟨h.nd, by simp, fun a ha b hb => ?_⟩, fun k => ?_, h.cu, fun n hn => ?_, fun n hn => ⟨inR_nil n, ?_⟩, fun n n2 n3 => ?_⟩
      · simp at hb; subst hb; exact fun e => hm (e ▸ ha)
      · have := h.me k
        simp only at this
        rw [List.mem_append, putF_some, this]
        simp
        exact Or.comm
      · have := h.ur n hn; simp only at this ⊢; omega
      · have := (h.uf n hn).2
        simp only at this ⊢
        rw [putF_some, this]
        have : n ≠ (p : Int) := fun e => hu (e ▸ hn)
        simp [this]
      · simp only at n3 ⊢
        rw [putF_some]
        by_cases hn : n = (p : Int)
        · right; left; simp [hn]
        · rcases h.al n n2 (by simp only; omega) with e | e | e
          · exact absurd e (inR_nil n)
          · right; left; simp only at e; simp [e]
          · exact .inr (.inr e)
/-- No page is left. -/
theorem full_room {x : TX} {room : Nat} (ok : x.Ok room) (he : (x.alloc room).1.2 ≠ 0) : (x.alloc room).1.2 = 2 ∧ (x.alloc room).2 = x ∧ x.free = [] ∧ x.pages = room := by
  obtain ⟨fr, p, g, c⟩ := x
  have hp := ok.pr
  simp only at hp
  cases fr with
  | cons r s => exact absurd rfl he
  | nil =>
    by_cases hrm : room ≤ p
    · simp [TX.alloc, hrm]; omega
    · simp [TX.alloc, hrm] at he

/-- A page that is given back. -/
theorem Apart.drop {x : TX} {mine : List Int} {used : List Pr} {room : Nat} (h : Apart x mine used) (ok : x.Ok room) (hr : room ≤ 16384) (id : Int) : Apart (x.drop id) (mine.filter (fun k => !decide (k = id))) used := by
  unfold TX.drop
  by_cases hi : (x.fresh id).isSome = true
  · rw [if_pos hi]
    have b := ok.fs id hi
    have hp := ok.pr
    have hu : ¬ InR used id := fun e => by have := (h.uf _ e).2; rw [hi] at this; cases this
    refine ⟨h.nd.sublist List.filter_sublist, fun k => ?_, h.cu, h.ur, fun n hn => ⟨fun hf => ?_, ?_⟩, fun n n2 n3 => ?_⟩
    · rw [List.mem_filter, delF_some, h.me k, Bool.and_eq_true_iff]
      exact And.comm
    · rcases (unL_in _ _ n).1 hf with e | e
      · exact (h.uf n hn).1 e
      · have := (inR_one _ _).1 e
        simp only at this
        exact hu ((show n = id by omega) ▸ hn)
    · rw [delF_some, (h.uf n hn).2]; simp
    · show InR (unL x.free [(id, id)]) n ∨ (delF x.fresh id n).isSome = true ∨ _
      rw [unL_in, delF_some]
      rcases h.al n n2 n3 with e | e | e
      · exact .inl (.inl e)
      · by_cases hn : n = id
        · left; right; rw [hn]; exact (inR_one _ _).2 (by simp only; omega)
        · right; left; simp [hn, e]
      · exact .inr (.inr e)
  · rw [if_neg hi]
    have hf : mine.filter (fun k => !decide (k = id)) = mine := by
      refine List.filter_eq_self.2 fun k hk => ?_
      have : k ≠ id := fun e => hi ((h.me id).1 (e ▸ hk))
      simp [this]
    rw [hf]
    exact h

/-- Runs of one number each. -/
def onesL (m : List Int) : List Pr := m.map fun k => (k, k)
theorem onesL_in (m : List Int) (n : Int) : InR (onesL m) n ↔ n ∈ m ∧ 0 ≤ n ∧ n ≤ 4294967295 := by
  unfold InR onesL
  constructor
  · rintro ⟨h0, h1, r, hr, h2, h3⟩
    obtain ⟨k, hk, rfl⟩ := List.mem_map.1 hr
    simp only at h2 h3
    have : n = k := by omega
    exact ⟨this ▸ hk, h0, h1⟩
  · rintro ⟨hm, h0, h1⟩
    exact ⟨h0, h1, (n, n), List.mem_map.2 ⟨n, hm, rfl⟩, Int.le_refl _, Int.le_refl _⟩
theorem cn_none {l : List Pr} (h : Cn l) (hn : ∀ n, ¬ InR l n) : l = [] := cn_ext _ _ h Cn.nil fun n => ⟨fun e => absurd e (hn n), fun e => absurd e (inR_nil n)⟩

theorem Apart.sum {x : TX} {mine : List Int} {used : List Pr} {room : Nat} (h : Apart x mine used) (ok : x.Ok room) (hr : room ≤ 16384) :
    unL x.free (unL (onesL mine) used) = nmL [(2, (x.pages : Int) - 1)] ∧ cntL (nmL x.free) + cntL (nmL (onesL mine)) + cntL (nmL used) = cntL (nmL [(2, (x.pages : Int) - 1)]) := by
  have hp := ok.pr
  have hf : ∀ n, n ∈ mine → 2 ≤ n ∧ n < x.pages := fun n hn => ok.fs n ((h.me n).1 hn)
  have e1 : unL x.free (unL (onesL mine) used) = nmL [(2, (x.pages : Int) - 1)] := by
    refine cn_ext _ _ (unL_cn _ _) (nmL_cn _) fun n => ?_
    rw [unL_in, unL_in, onesL_in, nmL_in, inR_one]
    constructor
    · rintro (e | ⟨e, e0, e1⟩ | e)
      · have := ok.fr n e; simp only; omega
      · have := hf n e; simp only; omega
      · have := h.ur n e; simp only; omega
    · rintro ⟨h0, h1, h2, h3⟩
      simp only at h2 h3
      rcases h.al n h2 (by omega) with e | e | e
      · exact .inl e
      · exact .inr (.inl ⟨(h.me n).2 e, h0, h1⟩)
      · exact .inr (.inr e)
  refine ⟨e1, ?_⟩
  have m1 : meL (onesL mine) used = [] := cn_none (meL_cn _ _) fun n hn => by
    have := (meL_in _ _ n).1 hn
    have k := (h.uf n this.2).2
    rw [(h.me n).1 ((onesL_in _ _).1 this.1).1] at k
    cases k
  have m2 : meL x.free (unL (onesL mine) used) = [] := cn_none (meL_cn _ _) fun n hn => by
    obtain ⟨a, b⟩ := (meL_in _ _ n).1 hn
    rcases (unL_in _ _ n).1 b with b | b
    · have k := ok.dj n a
      rw [(h.me n).1 ((onesL_in _ _).1 b).1] at k
      cases k
    · exact (h.uf n b).1 a
  have c1 := cnt_un_me (onesL mine) used
  have c2 := cnt_un_me x.free (unL (onesL mine) used)
  rw [m1, cnt_nil] at c1
  rw [m2, cnt_nil, e1, un_norm] at c2
  omega
theorem Apart.taken {x : TX} {mine : List Int} {used : List Pr} (h : Apart x mine used) {L : List Int} (hL : KeysOf x.fresh L) : L.length = mine.length :=
  ((List.perm_ext_iff_of_nodup (hL.1.imp fun h => by omega) h.nd).2 fun k => by rw [hL.2, h.me]).length_eq

end Go.Proofs.YtnngfkjbbedkpaaGreatDoor

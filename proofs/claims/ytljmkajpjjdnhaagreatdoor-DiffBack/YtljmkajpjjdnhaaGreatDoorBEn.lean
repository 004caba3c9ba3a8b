/-
  Texts of elder layers, joined: CdText, En, En2, EnMem, EnOwn, EnSmall, EnRight, EnProg, EnSize.
-/
import Derived.Test.YtljmkajpjjdnhaaGreatDoorBCd
import Derived.Lib.Bytealg
import Derived.Lib.Strings
import Derived.Shelf.GgSortFunc.RowK
import Derived.Shelf.SlicesE.Kit
import Derived.Shelf.SlSortCmp.QuietGrown
import Derived.Lib.SliceRun
import Derived.Laws.AppendOwnNone
import Derived.WalkKit
import Derived.WalkSpells
import Derived.WalkLawsBesides
import Derived.Deep.RegionHeld3
import Derived.Test.YtljmkajpjjdnhaaGreatDoorProg
import Derived.ArgAppend
import Derived.Deep.RegionLaw
import Derived.Laws.OwnMore
import Derived.Test.YtljmkajpjjdnhaaGreatDoorShelf
import Derived.Deep.LoopGhost
import Derived.BigQuiet
import Derived.Deep.QuietTactic
import Derived.Deep.DeepCutAuto
namespace Go.Proofs.YtljmkajpjjdnhaaGreatDoor.N

/-! CdText -/
section
open Go.RowKit

/-- The bytes that Text answers. -/
def textS (s : ByteArray) : List UInt8 := if s.size ≤ 255 then UInt8.ofNat s.size :: s.data.toList else []
/-- The error that Text answers. -/
def textE (s : ByteArray) : Int := if s.size ≤ 255 then 0 else 1

set_option maxHeartbeats 400000 in
theorem text_any (s : ByteArray) (w : World) (hs : s.size ≤ maxLen) :
    Calls Tryz.prog 62 #[.string s] w fun r w' => r = .returned (.tuple #[.string ⟨(textS s).toArray⟩, .int .i64 (textE s)]) ∧ Below w.heap.size w w' := by
  unfold maxLen at hs
  by_cases h : s.size ≤ 255
  · have e1 : putS 1 (s.size : Int) = [UInt8.ofNat s.size] := by
      have : putB 1 (s.size : Int) = true := by simp [putB, szB]; omega
      have e : s.size % 256 = s.size := by omega
      simp [putS, this, beBytes, e]
    have e2 : putE 1 (s.size : Int) = 0 := by
      have : putB 1 (s.size : Int) = true := by simp [putB, szB]; omega
      simp [putE, this]
    have e3 : Hid (textS s = UInt8.ofNat s.size :: s.data.toList) := by simp [Hid, textS, h]
    have e4 : Hid (textE s = 0) := by simp [Hid, textE, h]
    have P := put_any 1 (s.size : Int) w
    rw [e1, e2] at P
    clear e1 e2
    have C : Hid _ := P
    clear P
    go_enter Tryz.func62, Tryz.ntmps62
    go_wp2_with (go_at_call 76; refine Calls.mono C.out ?_; rintro e w1 ⟨rfl, hb⟩)
    refine (join2 ⟨#[UInt8.ofNat s.size]⟩ s w1 (by show 1 + s.size ≤ _; omega)).mono ?_
    rintro e w2 ⟨rfl, hb2⟩
    go_wp2
    go_ret2
    rw [e3.out, e4.out]
    exact ⟨by simp, hb.trans (hb2.mono hb.size)⟩
  · have e1 : putS 1 (s.size : Int) = [] := by
      have : putB 1 (s.size : Int) = false := by simp [putB]; omega
      simp [putS, this]
    have e2 : putE 1 (s.size : Int) = 1 := by
      have : putB 1 (s.size : Int) = false := by simp [putB]; omega
      simp [putE, this]
    have e3 : Hid (textS s = []) := by simp [Hid, textS, h]
    have e4 : Hid (textE s = 1) := by simp [Hid, textE, h]
    have P := put_any 1 (s.size : Int) w
    rw [e1, e2] at P
    clear e1 e2
    have C : Hid _ := P
    clear P
    go_enter Tryz.func62, Tryz.ntmps62
    go_wp2_with (go_at_call 76; refine Calls.mono C.out ?_; rintro e w1 ⟨rfl, hb⟩)
    go_ret2
    rw [e3.out, e4.out]
    exact ⟨rfl, hb⟩

/-- What the Reader's Text answers, what is left, and the error behind it. -/
def rdText (s : ByteArray) (e : Int) : ByteArray × ByteArray × Int := rdBytes (rdInt s e 1).2.1 (rdInt s e 1).2.2 (rdInt s e 1).1

set_option maxHeartbeats 400000 in
theorem rtext_any (b : Nat) (s : ByteArray) (e : Int) (w : World) (h : Rd b s e w) :
    Calls Tryz.prog 113 #[.pointer (some ⟨b, 0, none⟩)] w fun r w' => r = .returned (.string (rdText s e).1) ∧ Rd b (rdText s e).2.1 (rdText s e).2.2 w' ∧ Only b w w' := by
  have C : Hid _ := int_any b s e 1 w h
  clear h
  unfold rdText
  generalize rdInt s e 1 = t at *
  obtain ⟨n, s1, e1⟩ := t
  go_enter Tryz.func113, Tryz.ntmps113
  go_wp2_with (go_at_call 110; refine Calls.mono C.out ?_; rintro e w1 ⟨rfl, hr, ho⟩)
  refine (bytes_any b s1 e1 n w1 hr).mono ?_
  rintro r w2 ⟨rfl, hr2, ho2⟩
  go_wp2
  go_ret
  exact ⟨rfl, hr2, ho.trans ho2⟩

theorem rdText_app (c : UInt8) (l r : List UInt8) (h : c.toNat = l.length) : rdText ⟨(c :: (l ++ r)).toArray⟩ 0 = (⟨l.toArray⟩, ⟨r.toArray⟩, 0) := by
  have e := rdInt_app [c] (l ++ r) 1 rfl rfl
  unfold rdText
  rw [List.singleton_append] at e
  rw [e]
  exact rdBytes_app l r _ (by simp [beNat, h])

theorem rdText_inv (s : ByteArray) (e : Int) (h : (rdText s e).2.2 = 0) :
    e = 0 ∧ ∃ (c : UInt8) (l r : List UInt8), s = ⟨(c :: (l ++ r)).toArray⟩ ∧ c.toNat = l.length ∧ rdText s e = (⟨l.toArray⟩, ⟨r.toArray⟩, 0) := by
  have h1 := rdBytes_inv _ _ _ h
  obtain ⟨he1, l, r, hs1, hn, hr⟩ := h1
  obtain ⟨he, _, l1, r1, hs, hl1, hi⟩ := rdInt_inv s e 1 he1
  refine ⟨he, ?_⟩
  rw [hi] at hs1 hn
  match l1, hl1 with
  | [c], _ =>
    refine ⟨c, l, r, ?_, ?_, ?_⟩
    · have : r1 = l ++ r := by
        have := congrArg (fun b : ByteArray => b.data.toList) hs1
        simpa using this
      rw [hs, this]; rfl
    · simp [beNat] at hn; omega
    · exact hr
end

/-! En -/
section
/-- A key with its value. -/
abbrev En := ByteArray × ByteArray

/-- A key is below another one. -/
def ltK (a b : ByteArray) : Bool := Op.bytesLess a.toList b.toList

theorem bl_irrefl : ∀ x : List UInt8, Op.bytesLess x x = false
  | [] => rfl
  | a :: x => by simp [Op.bytesLess, bl_irrefl x]

theorem bl_trans : ∀ x y z : List UInt8, Op.bytesLess x y = true → Op.bytesLess y z = true → Op.bytesLess x z = true
  | _, _, [] => by intro h1 h2; cases ‹List UInt8› <;> simp [Op.bytesLess] at h2
  | _, [], _ :: _ => by intro h1; cases ‹List UInt8› <;> simp [Op.bytesLess] at h1
  | [], _ :: _, _ :: _ => by intros; rfl
  | a :: x, b :: y, c :: z => by
    intro h1 h2
    simp only [Op.bytesLess, Bool.or_eq_true, decide_eq_true_eq, Bool.and_eq_true, beq_iff_eq] at h1 h2 ⊢
    rcases h1 with h1 | ⟨rfl, h1⟩
    · rcases h2 with h2 | ⟨rfl, h2⟩
      · left; rw [UInt8.lt_iff_toNat_lt] at *; omega
      · exact Or.inl h1
    · rcases h2 with h2 | ⟨rfl, h2⟩
      · exact Or.inl h2
      · exact Or.inr ⟨rfl, bl_trans x y z h1 h2⟩

theorem bl_tri : ∀ x y : List UInt8, Op.bytesLess x y = false → Op.bytesLess y x = false → x = y
  | [], [] => fun _ _ => rfl
  | [], _ :: _ => fun h _ => by simp [Op.bytesLess] at h
  | _ :: _, [] => fun _ h => by simp [Op.bytesLess] at h
  | a :: x, b :: y => fun h1 h2 => by
    simp only [Op.bytesLess, Bool.or_eq_false_iff, decide_eq_false_iff_not, Bool.and_eq_false_iff, beq_eq_false_iff_ne] at h1 h2
    have e : a = b := by
      apply UInt8.toNat_inj.1
      have := h1.1
      have := h2.1
      rw [UInt8.lt_iff_toNat_lt] at *
      omega
    subst e
    have h3 := h1.2.resolve_left (by simp)
    have h4 := h2.2.resolve_left (by simp)
    rw [bl_tri x y h3 h4]

theorem cmp_bl : ∀ x y : List UInt8, (Lib.compareBytes x y < 0 ↔ Op.bytesLess x y = true) ∧ (Lib.compareBytes x y = 0 ↔ x = y)
  | [], [] => by simp [Lib.compareBytes, Op.bytesLess]
  | [], _ :: _ => by simp [Lib.compareBytes, Op.bytesLess]
  | _ :: _, [] => by simp [Lib.compareBytes, Op.bytesLess]
  | a :: x, b :: y => by
    have ih := cmp_bl x y
    rcases Nat.lt_trichotomy a.toNat b.toNat with c | c | c
    · have e1 : a < b := UInt8.lt_iff_toNat_lt.2 c
      have e2 : a ≠ b := by intro e; subst e; omega
      simp [Lib.compareBytes, Op.bytesLess, e1, e2]
    · have e1 : a = b := UInt8.toNat_inj.1 c
      subst e1
      simp [Lib.compareBytes, Op.bytesLess, ih]
    · have e1 : ¬ a < b := by rw [UInt8.lt_iff_toNat_lt]; omega
      have e2 : a ≠ b := by intro e; subst e; omega
      have e3 : b < a := UInt8.lt_iff_toNat_lt.2 c
      simp [Lib.compareBytes, Op.bytesLess, e1, e2, e3]

theorem baL_inj {a b : ByteArray} (h : a.toList = b.toList) : a = b := by
  rw [Lib.toList_data, Lib.toList_data] at h
  exact ByteArray.ext (Array.toList_inj.1 h)

theorem ltK_irrefl (a : ByteArray) : ltK a a = false := bl_irrefl _
theorem ltK_trans {a b c : ByteArray} (h1 : ltK a b = true) (h2 : ltK b c = true) : ltK a c = true := bl_trans _ _ _ h1 h2
theorem ltK_tri {a b : ByteArray} (h1 : ltK a b = false) (h2 : ltK b a = false) : a = b := baL_inj (bl_tri _ _ h1 h2)
theorem ltK_ne {a b : ByteArray} (h : ltK a b = true) : a ≠ b := by intro e; rw [e, ltK_irrefl] at h; cases h
theorem ltK_asymm {a b : ByteArray} (h : ltK a b = true) : ltK b a = false := by
  cases e : ltK b a
  · rfl
  · have := ltK_trans h e; rw [ltK_irrefl] at this; cases this
theorem ltK_of_not {a b : ByteArray} (h : ltK a b = false) (hne : a ≠ b) : ltK b a = true := by
  cases e : ltK b a
  · exact absurd (ltK_tri h e) hne
  · rfl
theorem ltK_ge_trans {a b c : ByteArray} (h1 : ltK a b = false) (h2 : ltK c b = true) : ltK c a = true := by
  by_cases e : a = b
  · rw [e]; exact h2
  · exact ltK_trans h2 (ltK_of_not h1 e)

/-- What strings.Compare says. -/
def cmpK (a b : ByteArray) : Int := Lib.compareBytes a.data.toList b.data.toList
theorem cmpK_lt (a b : ByteArray) : cmpK a b < 0 ↔ ltK a b = true := by
  unfold cmpK ltK; rw [Lib.toList_data, Lib.toList_data]; exact (cmp_bl _ _).1
theorem cmpK_eq (a b : ByteArray) : cmpK a b = 0 ↔ a = b := by
  unfold cmpK
  rw [(cmp_bl _ _).2]
  exact ⟨fun h => ByteArray.ext (Array.toList_inj.1 h), fun h => by rw [h]⟩

/-- There may be a key with a value. -/
def mayB (k v : ByteArray) : Bool := decide (1 ≤ k.size) && (decide (k.size ≤ 16) && decide (v.size ≤ 40))
theorem mayB_iff {k v : ByteArray} : mayB k v = true ↔ 1 ≤ k.size ∧ k.size ≤ 16 ∧ v.size ≤ 40 := by simp [mayB]
theorem mayB_no {k v : ByteArray} (h : mayB k v = false) : ¬ (1 ≤ k.size ∧ k.size ≤ 16 ∧ v.size ≤ 40) := fun c => by rw [mayB_iff.2 c] at h; cases h

/-- The entry at place i may be, and its key is above the one before. -/
def okE (l : List En) (i : Nat) : Bool := mayB l[i]!.1 l[i]!.2 && (i == 0 || ltK l[i - 1]!.1 l[i]!.1)
/-- A right list. -/
def rgB (l : List En) : Bool := (List.range l.length).all (okE l)

theorem rgB_yes {l : List En} (h : ∀ j, j < l.length → okE l j = true) : rgB l = true := by
  unfold rgB
  rw [List.all_eq_true]
  intro j hj
  exact h j (List.mem_range.1 hj)
theorem rgB_at {l : List En} (h : rgB l = true) (j : Nat) (hj : j < l.length) : okE l j = true := by
  unfold rgB at h
  rw [List.all_eq_true] at h
  exact h j (List.mem_range.2 hj)
theorem rgB_no {l : List En} (j : Nat) (hj : j < l.length) (h : okE l j = false) : rgB l = false := by
  cases e : rgB l
  · rfl
  · rw [rgB_at e j hj] at h; cases h

/-- Keys that rise. -/
def Up (l : List En) : Prop := l.Pairwise (fun x y => ltK x.1 y.1 = true)
structure Rg (l : List En) : Prop where
  up : Up l
  may : ∀ x ∈ l, mayB x.1 x.2 = true

theorem bang_get {l : List En} {i : Nat} (h : i < l.length) : l[i]! = l[i] := getElem!_pos l i h

theorem up_of {l : List En} (h : ∀ j, j + 1 < l.length → ltK l[j]!.1 l[j + 1]!.1 = true) : Up l := by
  have key : ∀ d i, i + d + 1 < l.length → ltK l[i]!.1 l[i + d + 1]!.1 = true := by
    intro d
    induction d with
    | zero => intro i hi; exact h i hi
    | succ d ih =>
      intro i hi
      exact ltK_trans (ih i (by omega)) (h (i + d + 1) hi)
  unfold Up
  rw [List.pairwise_iff_getElem]
  intro i j hi hj hij
  have := key (j - i - 1) i (by omega)
  rw [show i + (j - i - 1) + 1 = j by omega, bang_get hi, bang_get hj] at this
  exact this

theorem Up.at {l : List En} (h : Up l) {i j : Nat} (hij : i < j) (hj : j < l.length) : ltK l[i]!.1 l[j]!.1 = true := by
  have := (List.pairwise_iff_getElem.1 h) i j (by omega) hj hij
  rw [bang_get hj, bang_get (by omega)]
  exact this

theorem rg_of {l : List En} (h : rgB l = true) : Rg l := by
  refine ⟨up_of fun j hj => ?_, fun x hx => ?_⟩
  · have := rgB_at h (j + 1) hj
    unfold okE at this
    simp only [Bool.and_eq_true, Bool.or_eq_true] at this
    rcases this.2 with e | e
    · simp at e
    · exact e
  · obtain ⟨i, hi, rfl⟩ := List.getElem_of_mem hx
    have := rgB_at h i hi
    unfold okE at this
    simp only [Bool.and_eq_true] at this
    rw [bang_get hi] at this
    exact this.1

theorem rgB_of {l : List En} (h : Rg l) : rgB l = true := by
  refine rgB_yes fun j hj => ?_
  unfold okE
  rw [Bool.and_eq_true]
  refine ⟨h.may _ (by rw [bang_get hj]; exact List.getElem_mem hj), ?_⟩
  cases j with
  | zero => rfl
  | succ j => simp only [Bool.or_eq_true]; exact Or.inr (h.up.at (Nat.lt_succ_self j) hj)

theorem rgB_iff {l : List En} : rgB l = true ↔ Rg l := ⟨rg_of, rgB_of⟩

theorem Rg.nil : Rg [] := ⟨List.Pairwise.nil, fun _ h => by cases h⟩
theorem Rg.tail {x : En} {l : List En} (h : Rg (x :: l)) : Rg l := ⟨(List.pairwise_cons.1 h.up).2, fun y hy => h.may y (List.mem_cons_of_mem _ hy)⟩
theorem Rg.head {x : En} {l : List En} (h : Rg (x :: l)) : ∀ y ∈ l, ltK x.1 y.1 = true := (List.pairwise_cons.1 h.up).1
theorem Rg.cons {x : En} {l : List En} (h : Rg l) (hx : mayB x.1 x.2 = true) (hl : ∀ y ∈ l, ltK x.1 y.1 = true) : Rg (x :: l) :=
  ⟨List.pairwise_cons.2 ⟨hl, h.up⟩, fun y hy => by
    rcases List.mem_cons.1 hy with e | e
    · rw [e]; exact hx
    · exact h.may y e⟩
theorem Rg.sub {l m : List En} (h : Rg l) (s : m.Sublist l) : Rg m := ⟨h.up.sublist s, fun x hx => h.may x (s.subset hx)⟩

/-- Two right lists of the same entries are one. -/
theorem Rg.ext : ∀ {l m : List En}, Rg l → Rg m → (∀ x, x ∈ l ↔ x ∈ m) → l = m
  | [], [], _, _, _ => rfl
  | [], y :: m, _, _, h => by have := (h y).2 (List.mem_cons_self ..); cases this
  | x :: l, [], _, _, h => by have := (h x).1 (List.mem_cons_self ..); cases this
  | x :: l, y :: m, hl, hm, h => by
    have hxy : x = y := by
      rcases List.mem_cons.1 ((h x).1 (List.mem_cons_self ..)) with e | e
      · exact e
      · rcases List.mem_cons.1 ((h y).2 (List.mem_cons_self ..)) with f | f
        · exact f.symm
        · have a := hm.head x e
          have b := hl.head y f
          rw [ltK_asymm a] at b
          cases b
    subst hxy
    rw [Rg.ext hl.tail hm.tail fun z => ⟨fun hz => ?_, fun hz => ?_⟩]
    · rcases List.mem_cons.1 ((h z).1 (List.mem_cons_of_mem _ hz)) with e | e
      · exact absurd (hl.head z hz) (by rw [e, ltK_irrefl]; simp)
      · exact e
    · rcases List.mem_cons.1 ((h z).2 (List.mem_cons_of_mem _ hz)) with e | e
      · exact absurd (hm.head z hz) (by rw [e, ltK_irrefl]; simp)
      · exact e

theorem Rg.one {l : List En} (h : Rg l) {x y : En} (hx : x ∈ l) (hy : y ∈ l) (e : x.1 = y.1) : x = y := by
  obtain ⟨i, hi, rfl⟩ := List.getElem_of_mem hx
  obtain ⟨j, hj, rfl⟩ := List.getElem_of_mem hy
  rcases Nat.lt_trichotomy i j with c | c | c
  · have := h.up.at c hj; rw [bang_get hi, bang_get hj, e, ltK_irrefl] at this; cases this
  · subst c; rfl
  · have := h.up.at c hi; rw [bang_get hi, bang_get hj, e, ltK_irrefl] at this; cases this

/-- How many keys are below. -/
def fdN (l : List En) (k : ByteArray) : Nat := l.countP fun x => ltK x.1 k
/-- Whether there is a key. -/
def fdB (l : List En) (k : ByteArray) : Bool := l.any fun x => decide (x.1 = k)
/-- The value of a key, or the empty text. -/
def gtV : List En → ByteArray → ByteArray
  | [], _ => ⟨#[]⟩
  | x :: l, k => if x.1 = k then x.2 else gtV l k
/-- A list without a key. -/
def dlL (l : List En) (k : ByteArray) : List En := l.filter fun x => !decide (x.1 = k)
/-- An entry, in its place. -/
def insL (x : En) : List En → List En
  | [] => [x]
  | y :: l => if ltK x.1 y.1 = true then x :: y :: l else y :: insL x l
/-- A list with an entry. -/
def ptL (l : List En) (k v : ByteArray) : List En := insL (k, v) (dlL l k)

theorem fdB_iff {l : List En} {k : ByteArray} : fdB l k = true ↔ ∃ x ∈ l, x.1 = k := by simp [fdB]
theorem fdB_no {l : List En} {k : ByteArray} (h : fdB l k = false) : ∀ x ∈ l, x.1 ≠ k := fun x hx e => by
  have := fdB_iff.2 ⟨x, hx, e⟩; rw [h] at this; cases this
theorem gtV_of {l : List En} (h : Rg l) : ∀ {x : En}, x ∈ l → gtV l x.1 = x.2 := by
  induction l with
  | nil => intro x hx; cases hx
  | cons y l ih =>
    intro x hx
    unfold gtV
    by_cases c : y.1 = x.1
    · rw [if_pos c, h.one (List.mem_cons_self ..) hx c]
    · rw [if_neg c]
      rcases List.mem_cons.1 hx with e | e
      · rw [e] at c; exact absurd rfl c
      · exact ih h.tail e
theorem gtV_no {l : List En} {k : ByteArray} (h : fdB l k = false) : gtV l k = ⟨#[]⟩ := by
  induction l with
  | nil => rfl
  | cons y l ih =>
    have h1 := fdB_no h y (List.mem_cons_self ..)
    unfold gtV
    rw [if_neg h1]
    refine ih ?_
    cases e : fdB l k
    · rfl
    · obtain ⟨x, hx, e2⟩ := fdB_iff.1 e
      exact absurd e2 (fdB_no h x (List.mem_cons_of_mem _ hx))

/-- What the keys of two right lists say of one key. -/
theorem gt_same {l m : List En} {k : ByteArray} (hl : Rg l) (hm : Rg m) (h : ∀ v, (k, v) ∈ l ↔ (k, v) ∈ m) : fdB l k = fdB m k ∧ gtV l k = gtV m k := by
  cases e : fdB l k
  · cases f : fdB m k
    · exact ⟨rfl, by rw [gtV_no e, gtV_no f]⟩
    · obtain ⟨x, hx, rfl⟩ := fdB_iff.1 f
      exact absurd rfl (fdB_no e x ((h x.2).2 hx))
  · obtain ⟨x, hx, rfl⟩ := fdB_iff.1 e
    have hx2 : x ∈ m := (h x.2).1 hx
    rw [fdB_iff.2 ⟨x, hx2, rfl⟩, gtV_of hl hx, gtV_of hm hx2]
    exact ⟨rfl, rfl⟩

theorem dlL_rg {l : List En} (h : Rg l) (k : ByteArray) : Rg (dlL l k) := h.sub List.filter_sublist
theorem dlL_mem {l : List En} {k : ByteArray} {x : En} : x ∈ dlL l k ↔ x ∈ l ∧ x.1 ≠ k := by simp [dlL]
theorem dlL_none {l : List En} {k : ByteArray} (h : fdB l k = false) : dlL l k = l := by
  unfold dlL
  rw [List.filter_eq_self]
  intro x hx
  simp [fdB_no h x hx]

theorem insL_mem {x y : En} : ∀ {l : List En}, y ∈ insL x l ↔ y = x ∨ y ∈ l
  | [] => by simp [insL]
  | z :: l => by
    unfold insL
    by_cases c : ltK x.1 z.1 = true
    · rw [if_pos c]; simp
    · rw [if_neg c]
      simp only [List.mem_cons, insL_mem (l := l)]
      constructor
      · rintro (a | a | a)
        · exact Or.inr (Or.inl a)
        · exact Or.inl a
        · exact Or.inr (Or.inr a)
      · rintro (a | a | a)
        · exact Or.inr (Or.inl a)
        · exact Or.inl a
        · exact Or.inr (Or.inr a)

theorem insL_rg {x : En} (hx : mayB x.1 x.2 = true) : ∀ {l : List En}, Rg l → (∀ y ∈ l, y.1 ≠ x.1) → Rg (insL x l)
  | [], _, _ => Rg.cons Rg.nil hx fun _ h => by cases h
  | z :: l, h, hne => by
    unfold insL
    by_cases c : ltK x.1 z.1 = true
    · rw [if_pos c]
      refine h.cons hx fun y hy => ?_
      rcases List.mem_cons.1 hy with e | e
      · rw [e]; exact c
      · exact ltK_trans c (h.head y e)
    · rw [if_neg c]
      refine (insL_rg hx h.tail fun y hy => hne y (List.mem_cons_of_mem _ hy)).cons (h.may z (List.mem_cons_self ..)) fun y hy => ?_
      rcases insL_mem.1 hy with e | e
      · rw [e]
        exact ltK_of_not (by simpa using c) fun e2 => hne z (List.mem_cons_self ..) e2.symm
      · exact h.head y e

theorem ptL_rg {l : List En} {k v : ByteArray} (h : Rg l) (hm : mayB k v = true) : Rg (ptL l k v) :=
  insL_rg hm (dlL_rg h k) fun _ hy => (dlL_mem.1 hy).2
theorem ptL_mem {l : List En} {k v : ByteArray} {x : En} : x ∈ ptL l k v ↔ x = (k, v) ∨ (x ∈ l ∧ x.1 ≠ k) := by
  unfold ptL; rw [insL_mem, dlL_mem]

/-- What stands ahead of a key's place is below it, and what stands behind is not. -/
theorem fdN_at {l : List En} (h : Rg l) (k : ByteArray) : fdN l k ≤ l.length ∧ (∀ j, j < fdN l k → ltK l[j]!.1 k = true) ∧ (∀ j, fdN l k ≤ j → j < l.length → ltK l[j]!.1 k = false) := by
  induction l with
  | nil => exact ⟨Nat.le_refl _, fun j hj => by simp [fdN] at hj, fun j _ hj => by simp at hj⟩
  | cons x l ih =>
    obtain ⟨i1, i2, i3⟩ := ih h.tail
    cases c : ltK x.1 k
    · have e : fdN (x :: l) k = fdN l k := by simp [fdN, c]
      have z : fdN l k = 0 := by
        unfold fdN
        rw [List.countP_eq_zero]
        intro y hy hc
        have := ltK_trans (h.head y hy) hc
        rw [c] at this
        cases this
      rw [e, z]
      refine ⟨Nat.zero_le _, fun j hj => absurd hj (Nat.not_lt_zero _), fun j _ hj => ?_⟩
      cases j with
      | zero => exact c
      | succ j => have := i3 j (by omega) (by simpa using hj); simpa using this
    · have e : fdN (x :: l) k = fdN l k + 1 := by simp [fdN, c]
      rw [e]
      refine ⟨by simp; omega, fun j hj => ?_, fun j hj hl => ?_⟩
      · cases j with
        | zero => exact c
        | succ j => have := i2 j (by omega); simpa using this
      · cases j with
        | zero => omega
        | succ j => have := i3 j (by omega) (by simpa using hl); simpa using this

theorem fdN_of {l : List En} {k : ByteArray} {i : Nat} (h : Rg l) (hi : i ≤ l.length) (h1 : ∀ j, j < i → ltK l[j]!.1 k = true) (h2 : ∀ j, i ≤ j → j < l.length → ltK l[j]!.1 k = false) : i = fdN l k := by
  obtain ⟨a, b, c⟩ := fdN_at h k
  rcases Nat.lt_trichotomy i (fdN l k) with d | d | d
  · have := h2 i (Nat.le_refl _) (by omega); rw [b i d] at this; cases this
  · exact d
  · have := h1 _ d; rw [c _ (Nat.le_refl _) (by omega)] at this; cases this

/-- Whether there is a key is told at its place. -/
theorem fdB_at {l : List En} (h : Rg l) (k : ByteArray) : fdB l k = true ↔ fdN l k < l.length ∧ l[fdN l k]!.1 = k := by
  obtain ⟨a, b, c⟩ := fdN_at h k
  constructor
  · intro hf
    obtain ⟨x, hx, e⟩ := fdB_iff.1 hf
    obtain ⟨i, hi, rfl⟩ := List.getElem_of_mem hx
    rcases Nat.lt_trichotomy i (fdN l k) with d | d | d
    · have := b i d; rw [bang_get hi, e, ltK_irrefl] at this; cases this
    · rw [← d]; exact ⟨hi, by rw [bang_get hi]; exact e⟩
    · have h1 := h.up.at d hi
      rw [bang_get hi, e] at h1
      rw [c _ (Nat.le_refl _) (by omega)] at h1
      cases h1
  · rintro ⟨d, e⟩
    exact fdB_iff.2 ⟨l[fdN l k]!, by rw [bang_get d]; exact List.getElem_mem d, e⟩

theorem gtV_at {l : List En} (h : Rg l) {k : ByteArray} (hf : fdB l k = true) : gtV l k = l[fdN l k]!.2 := by
  obtain ⟨d, e⟩ := (fdB_at h k).1 hf
  have := gtV_of h (x := l[fdN l k]!) (by rw [bang_get d]; exact List.getElem_mem d)
  rw [e] at this
  exact this

theorem mem_take_bang {l : List En} {i : Nat} {x : En} (h : x ∈ l.take i) : ∃ j, j < i ∧ j < l.length ∧ l[j]! = x := by
  obtain ⟨j, hj, rfl⟩ := List.getElem_of_mem h
  have h2 := hj
  rw [List.length_take] at h2
  exact ⟨j, by omega, by omega, by rw [bang_get (by omega)]; simp⟩
theorem mem_drop_bang {l : List En} {i : Nat} {x : En} (h : x ∈ l.drop i) : ∃ j, i ≤ j ∧ j < l.length ∧ l[j]! = x := by
  obtain ⟨j, hj, rfl⟩ := List.getElem_of_mem h
  simp at hj
  exact ⟨i + j, by omega, by omega, by rw [bang_get (by omega)]; simp⟩
theorem bang_take {l : List En} {i j : Nat} (h : j < i) (hl : j < l.length) : l[j]! ∈ l.take i := by
  rw [bang_get hl]
  have : j < (l.take i).length := by simp; omega
  have e : (l.take i)[j] = l[j] := by simp
  rw [← e]
  exact List.getElem_mem this
theorem bang_drop {l : List En} {i j : Nat} (h : i ≤ j) (hl : j < l.length) : l[j]! ∈ l.drop i := by
  rw [bang_get hl]
  obtain ⟨d, rfl⟩ := Nat.le.dest h
  have : d < (l.drop i).length := by simp; omega
  have e : (l.drop i)[d] = l[i + d] := by simp
  rw [← e]
  exact List.getElem_mem this

theorem rg_parts {l : List En} {i j : Nat} {m : List En} (h : Rg l) (hij : i ≤ j) (hm : Rg m) (h1 : ∀ x ∈ l.take i, ∀ y ∈ m, ltK x.1 y.1 = true) (h2 : ∀ x ∈ m, ∀ y ∈ l.drop j, ltK x.1 y.1 = true) : Rg (l.take i ++ m ++ l.drop j) := by
  refine ⟨?_, fun x hx => ?_⟩
  · unfold Up
    rw [List.append_assoc, List.pairwise_append, List.pairwise_append]
    refine ⟨h.up.sublist (List.take_sublist ..), ⟨hm.up, h.up.sublist (List.drop_sublist ..), h2⟩, fun x hx y hy => ?_⟩
    rcases List.mem_append.1 hy with e | e
    · exact h1 x hx y e
    · obtain ⟨a, a1, a2, rfl⟩ := mem_take_bang hx
      obtain ⟨b, b1, b2, rfl⟩ := mem_drop_bang e
      exact h.up.at (by omega) b2
  · rcases List.mem_append.1 hx with e | e
    · rcases List.mem_append.1 e with f | f
      · exact h.may x (List.mem_of_mem_take f)
      · exact hm.may x f
    · exact h.may x (List.mem_of_mem_drop e)

theorem dlL_cut {l : List En} (h : Rg l) {k : ByteArray} (hf : fdB l k = true) : l.take (fdN l k) ++ l.drop (fdN l k + 1) = dlL l k := by
  obtain ⟨d, e⟩ := (fdB_at h k).1 hf
  have hp := rg_parts (m := []) h (Nat.le_succ (fdN l k)) Rg.nil (fun _ _ _ h => by cases h) (fun _ h => by cases h)
  rw [List.append_nil] at hp
  refine Rg.ext hp (dlL_rg h k) fun x => ?_
  rw [dlL_mem, List.mem_append]
  constructor
  · rintro (a | a)
    · obtain ⟨j, j1, j2, rfl⟩ := mem_take_bang a
      refine ⟨List.mem_of_mem_take a, ?_⟩
      have := h.up.at j1 d
      rw [e] at this
      exact ltK_ne this
    · obtain ⟨j, j1, j2, rfl⟩ := mem_drop_bang a
      refine ⟨List.mem_of_mem_drop a, ?_⟩
      have := h.up.at (show fdN l k < j by omega) j2
      rw [e] at this
      exact (ltK_ne this).symm
  · rintro ⟨a, b⟩
    obtain ⟨j, hj, rfl⟩ := List.getElem_of_mem a
    rw [← bang_get hj] at b ⊢
    rcases Nat.lt_trichotomy j (fdN l k) with c | c | c
    · exact Or.inl (bang_take c hj)
    · rw [c] at b; exact absurd e b
    · exact Or.inr (bang_drop (by omega) hj)

theorem one_rg {k v : ByteArray} (hm : mayB k v = true) : Rg [(k, v)] := Rg.cons Rg.nil hm fun _ h => by cases h

theorem ptL_cut {l : List En} (h : Rg l) {k v : ByteArray} (hm : mayB k v = true) {j : Nat} (hj : j = if fdB l k = true then fdN l k + 1 else fdN l k) : l.take (fdN l k) ++ [(k, v)] ++ l.drop j = ptL l k v := by
  obtain ⟨a1, a2, a3⟩ := fdN_at h k
  have hle : fdN l k ≤ j := by rw [hj]; split <;> omega
  have hdrop : ∀ i, j ≤ i → i < l.length → ltK k l[i]!.1 = true := by
    intro i h1 h2
    by_cases c : fdB l k = true
    · rw [if_pos c] at hj
      obtain ⟨d, e⟩ := (fdB_at h k).1 c
      have := h.up.at (show fdN l k < i by omega) h2
      rwa [e] at this
    · rw [if_neg c] at hj
      refine ltK_of_not (a3 i (by omega) h2) fun e => c (fdB_iff.2 ⟨l[i]!, ?_, e⟩)
      rw [bang_get h2]; exact List.getElem_mem h2
  have hp := rg_parts (m := [(k, v)]) h hle (one_rg hm) (fun x hx y hy => by
    obtain ⟨i, i1, i2, rfl⟩ := mem_take_bang hx
    rw [List.mem_singleton.1 hy]
    exact a2 i i1) (fun x hx y hy => by
    obtain ⟨i, i1, i2, rfl⟩ := mem_drop_bang hy
    rw [List.mem_singleton.1 hx]
    exact hdrop i i1 i2)
  refine Rg.ext hp (ptL_rg h hm) fun x => ?_
  rw [ptL_mem, List.mem_append, List.mem_append, List.mem_singleton]
  constructor
  · rintro ((a | a) | a)
    · obtain ⟨i, i1, i2, rfl⟩ := mem_take_bang a
      exact Or.inr ⟨List.mem_of_mem_take a, ltK_ne (a2 i i1)⟩
    · exact Or.inl a
    · obtain ⟨i, i1, i2, rfl⟩ := mem_drop_bang a
      exact Or.inr ⟨List.mem_of_mem_drop a, (ltK_ne (hdrop i i1 i2)).symm⟩
  · rintro (a | ⟨a, b⟩)
    · exact Or.inl (Or.inr a)
    · obtain ⟨i, hi, rfl⟩ := List.getElem_of_mem a
      rw [← bang_get hi] at b ⊢
      by_cases c : i < fdN l k
      · exact Or.inl (Or.inl (bang_take c hi))
      · refine Or.inr (bang_drop ?_ hi)
        rw [hj]
        by_cases f : fdB l k = true
        · rw [if_pos f]
          obtain ⟨d, e⟩ := (fdB_at h k).1 f
          rcases Nat.lt_or_ge (fdN l k) i with g | g
          · omega
          · have : i = fdN l k := by omega
            rw [this] at b; exact absurd e b
        · rw [if_neg f]; omega
end

/-! En2 -/
section
/-- How many bytes an entry takes. -/
def szE (x : En) : Nat := 2 + x.1.size + x.2.size
/-- How many bytes entries take. -/
def szL : List En → Nat
  | [] => 0
  | x :: l => szE x + szL l

theorem szL_app (l m : List En) : szL (l ++ m) = szL l + szL m := by
  induction l with
  | nil => simp [szL]
  | cons x l ih => simp [szL, ih]; omega
theorem szL_snoc {l : List En} {i : Nat} (h : i < l.length) : szL (l.take (i + 1)) = szL (l.take i) + szE l[i]! := by
  rw [List.take_add_one, List.getElem?_eq_getElem h, szL_app, bang_get h]
  simp [szL]
theorem szL_take_le (l : List En) (i : Nat) : szL (l.take i) ≤ szL l := by
  have := szL_app (l.take i) (l.drop i)
  rw [List.take_append_drop] at this
  omega
theorem szL_bound {l : List En} {b : Nat} (h : ∀ x ∈ l, szE x ≤ b) : szL l ≤ l.length * b := by
  induction l with
  | nil => simp [szL]
  | cons x l ih =>
    have h1 := h x (List.mem_cons_self ..)
    have h2 := ih fun y hy => h y (List.mem_cons_of_mem _ hy)
    simp only [szL, List.length_cons, Nat.add_mul, Nat.one_mul]
    omega

/-- The first i + 1 take half at least. -/
def hfB (l : List En) (i : Nat) : Bool := decide (szL l ≤ 2 * szL (l.take (i + 1)))
/-- Where to cut a list in two. -/
def hfN (l : List En) : Nat := (((List.range (l.length - 1)).find? (hfB l)).map (· + 1)).getD (l.length - 1)

theorem find_first {p : Nat → Bool} {n i : Nat} (hi : i < n) (h1 : ∀ j, j < i → p j = false) (h2 : p i = true) : (List.range n).find? p = some i := by
  rw [List.find?_eq_some_iff_getElem]
  refine ⟨h2, i, by simpa using hi, by simp, fun j hj => ?_⟩
  simp [h1 j hj]
theorem find_none {p : Nat → Bool} {n : Nat} (h1 : ∀ j, j < n → p j = false) : (List.range n).find? p = none := by
  rw [List.find?_eq_none]
  intro j hj
  simp [h1 j (List.mem_range.1 hj)]

theorem hfN_here {l : List En} {i : Nat} (hi : i < l.length - 1) (h1 : ∀ j, j < i → hfB l j = false) (h2 : hfB l i = true) : hfN l = i + 1 := by
  unfold hfN; rw [find_first hi h1 h2]; rfl
theorem hfN_end {l : List En} (h1 : ∀ j, j < l.length - 1 → hfB l j = false) : hfN l = l.length - 1 := by
  unfold hfN; rw [find_none h1]; rfl
theorem hfN_short {l : List En} (h : l.length < 2) : hfN l = 0 := by
  rw [hfN_end fun j hj => by omega]; omega

/-- What is said of the place. -/
theorem hfN_is {l : List En} (h : 2 ≤ l.length) : 1 ≤ hfN l ∧ hfN l < l.length ∧ (szL l ≤ 2 * szL (l.take (hfN l)) ∨ hfN l = l.length - 1) ∧ (hfN l = 1 ∨ 2 * szL (l.take (hfN l - 1)) < szL l) := by
  by_cases c : ∃ i, i < l.length - 1 ∧ hfB l i = true
  · obtain ⟨i, hi⟩ := c
    have key : ∀ n, (∃ i, i ≤ n ∧ i < l.length - 1 ∧ hfB l i = true) → ∃ i, i < l.length - 1 ∧ hfB l i = true ∧ ∀ j, j < i → hfB l j = false := by
      intro n
      induction n with
      | zero => rintro ⟨i, h0, h1, h2⟩; exact ⟨i, h1, h2, fun j hj => by omega⟩
      | succ n ih =>
        rintro ⟨i, h0, h1, h2⟩
        by_cases d : ∃ j, j ≤ n ∧ j < l.length - 1 ∧ hfB l j = true
        · exact ih d
        · refine ⟨i, h1, h2, fun j hj => ?_⟩
          cases e : hfB l j
          · rfl
          · exact absurd ⟨j, by omega, by omega, e⟩ d
    obtain ⟨k, k1, k2, k3⟩ := key i ⟨i, Nat.le_refl _, hi⟩
    rw [hfN_here k1 k3 k2]
    refine ⟨by omega, by omega, Or.inl (by simpa [hfB] using k2), ?_⟩
    cases k with
    | zero => exact Or.inl rfl
    | succ k =>
      have := k3 k (by omega)
      right
      simp only [hfB, decide_eq_false_iff_not] at this
      rw [show k + 1 + 1 - 1 = k + 1 by omega]
      omega
  · have h1 : ∀ j, j < l.length - 1 → hfB l j = false := fun j hj => by
      cases e : hfB l j
      · rfl
      · exact absurd ⟨j, hj, e⟩ c
    rw [hfN_end h1]
    refine ⟨by omega, by omega, Or.inr rfl, ?_⟩
    rcases Nat.lt_or_ge 2 l.length with d | d
    · have := h1 (l.length - 3) (by omega)
      simp only [hfB, decide_eq_false_iff_not] at this
      right
      rw [show l.length - 1 - 1 = l.length - 3 + 1 by omega]
      omega
    · left; omega

/-- A text behind the byte that tells its length. -/
def txL (s : ByteArray) : List UInt8 := UInt8.ofNat s.size :: s.data.toList
/-- An entry's bytes. -/
def enE (x : En) : List UInt8 := txL x.1 ++ txL x.2
/-- A list's bytes. -/
def enL : List En → List UInt8
  | [] => []
  | x :: l => enE x ++ enL l

theorem enL_app (l m : List En) : enL (l ++ m) = enL l ++ enL m := by
  induction l with
  | nil => rfl
  | cons x l ih => simp [enL, ih]
theorem enL_snoc {l : List En} {i : Nat} (h : i < l.length) : enL (l.take (i + 1)) = enL (l.take i) ++ enE l[i]! := by
  rw [List.take_add_one, List.getElem?_eq_getElem h, enL_app, bang_get h]
  simp [enL]
theorem txL_length (s : ByteArray) : (txL s).length = 1 + s.size := by
  have := Lib.size_eq s
  simp [txL]; omega
theorem enE_length (x : En) : (enE x).length = szE x := by
  unfold enE szE
  rw [List.length_append, txL_length, txL_length]; omega
theorem enL_length (l : List En) : (enL l).length = szL l := by
  induction l with
  | nil => rfl
  | cons x l ih => simp only [enL, szL, List.length_append, ih, enE_length]

/-- The first entry of some bytes, and the rest. -/
def stp : List UInt8 → Option (En × List UInt8)
  | [] => none
  | c :: r => if r.length ≤ c.toNat then none else
    match r.drop c.toNat with
    | [] => none
    | d :: q => if q.length < d.toNat then none else some ((⟨(r.take c.toNat).toArray⟩, ⟨(q.take d.toNat).toArray⟩), q.drop d.toNat)

theorem tx_app {a r : List UInt8} {c : UInt8} (h : c.toNat = a.length) : txL ⟨a.toArray⟩ ++ r = c :: (a ++ r) := by
  have e : (⟨a.toArray⟩ : ByteArray).size = a.length := by simp [ByteArray.size]
  unfold txL
  rw [e, ← h]
  simp

theorem stp_inv {s r : List UInt8} {x : En} (h : stp s = some (x, r)) : s = enE x ++ r ∧ x.1.size ≤ 255 ∧ x.2.size ≤ 255 := by
  cases s with
  | nil => simp [stp] at h
  | cons c t =>
    simp only [stp] at h
    by_cases h1 : t.length ≤ c.toNat
    · rw [if_pos h1] at h; cases h
    · rw [if_neg h1] at h
      cases hd : t.drop c.toNat with
      | nil => rw [hd] at h; cases h
      | cons d q =>
        rw [hd] at h
        simp only at h
        by_cases h2 : q.length < d.toNat
        · rw [if_pos h2] at h; cases h
        · rw [if_neg h2] at h
          cases h
          have l1 : c.toNat = (t.take c.toNat).length := by simp; omega
          have l2 : d.toNat = (q.take d.toNat).length := by simp; omega
          have c1 := UInt8.toNat_lt c
          have d1 := UInt8.toNat_lt d
          have e1 : (⟨(t.take c.toNat).toArray⟩ : ByteArray).size = c.toNat := by simp [ByteArray.size]; omega
          have e2 : (⟨(q.take d.toNat).toArray⟩ : ByteArray).size = d.toNat := by simp [ByteArray.size]; omega
          refine ⟨?_, by simp only [e1]; omega, by simp only [e2]; omega⟩
          unfold enE
          rw [List.append_assoc, tx_app l2, List.take_append_drop, ← hd, tx_app l1, List.take_append_drop]

theorem stp_tx (c d : UInt8) (a b r : List UInt8) (h1 : c.toNat = a.length) (h2 : d.toNat = b.length) : stp (c :: (a ++ d :: (b ++ r))) = some ((⟨a.toArray⟩, ⟨b.toArray⟩), r) := by
  simp only [stp]
  have e1 : ¬ (a ++ d :: (b ++ r)).length ≤ c.toNat := by rw [List.length_append, List.length_cons]; omega
  have e2 : (a ++ d :: (b ++ r)).drop c.toNat = d :: (b ++ r) := by rw [h1]; simp
  have e3 : (a ++ d :: (b ++ r)).take c.toNat = a := by rw [h1]; simp
  have e4 : ¬ (b ++ r).length < d.toNat := by rw [List.length_append]; omega
  have e5 : (b ++ r).drop d.toNat = r := by rw [h2]; simp
  have e6 : (b ++ r).take d.toNat = b := by rw [h2]; simp
  rw [if_neg e1, e2]
  simp only
  rw [if_neg e4, e3, e5, e6]

theorem ofNat_size {n : Nat} (h : n ≤ 255) : (UInt8.ofNat n).toNat = n := by
  simp; omega

theorem stp_enE {x : En} (r : List UInt8) (h1 : x.1.size ≤ 255) (h2 : x.2.size ≤ 255) : stp (enE x ++ r) = some (x, r) := by
  have s1 := Lib.size_eq x.1
  have s2 := Lib.size_eq x.2
  have := stp_tx (UInt8.ofNat x.1.size) (UInt8.ofNat x.2.size) x.1.data.toList x.2.data.toList r (by rw [ofNat_size h1]; exact s1) (by rw [ofNat_size h2]; exact s2)
  have e : enE x ++ r = UInt8.ofNat x.1.size :: (x.1.data.toList ++ UInt8.ofNat x.2.size :: (x.2.data.toList ++ r)) := by simp [enE, txL]
  rw [e, this]

theorem stp_less {s r : List UInt8} {x : En} (h : stp s = some (x, r)) : r.length < s.length := by
  obtain ⟨e, _, _⟩ := stp_inv h
  rw [e, List.length_append, enE_length]
  unfold szE
  omega

/-- The list of some bytes, right or not. -/
def dcF : Nat → List UInt8 → Option (List En)
  | 0, s => if s.isEmpty then some [] else none
  | n + 1, s => if s.isEmpty then some [] else
    match stp s with
    | none => none
    | some (x, r) => (dcF n r).map (x :: ·)
def dcL (s : List UInt8) : Option (List En) := dcF s.length s

theorem dcF_any : ∀ (n m : Nat) (s : List UInt8), s.length ≤ n → s.length ≤ m → dcF n s = dcF m s
  | 0, m, s, h, _ => by
    obtain rfl : s = [] := List.length_eq_zero_iff.1 (by omega)
    cases m <;> rfl
  | n + 1, 0, s, _, h => by
    obtain rfl : s = [] := List.length_eq_zero_iff.1 (by omega)
    rfl
  | n + 1, m + 1, s, h1, h2 => by
    unfold dcF
    cases hs : s.isEmpty
    · cases ht : stp s with
      | none => rfl
      | some p =>
        obtain ⟨x, r⟩ := p
        have := stp_less ht
        simp only
        rw [dcF_any n m r (by omega) (by omega)]
    · rfl

theorem dcL_nil : dcL [] = some [] := rfl
theorem dcL_none {s : List UInt8} (hs : s ≠ []) (h : stp s = none) : dcL s = none := by
  cases s with
  | nil => exact absurd rfl hs
  | cons c t => unfold dcL; simp only [List.length_cons, dcF, h]; rfl
theorem dcL_some {s r : List UInt8} {x : En} (h : stp s = some (x, r)) : dcL s = (dcL r).map (x :: ·) := by
  have hl := stp_less h
  cases s with
  | nil => simp [stp] at h
  | cons c t =>
    unfold dcL
    simp only [List.length_cons, dcF, h]
    rw [dcF_any t.length r.length r (by simpa using Nat.lt_succ_iff.1 hl) (Nat.le_refl _)]
    rfl

theorem dcL_enL {l : List En} (h : ∀ x ∈ l, x.1.size ≤ 255 ∧ x.2.size ≤ 255) : dcL (enL l) = some l := by
  induction l with
  | nil => rfl
  | cons x l ih =>
    have h1 := h x (List.mem_cons_self ..)
    unfold enL
    rw [dcL_some (stp_enE (enL l) h1.1 h1.2), ih fun y hy => h y (List.mem_cons_of_mem _ hy)]
    rfl

theorem dcL_inv : ∀ (n : Nat) (s : List UInt8) (l : List En), s.length ≤ n → dcL s = some l → enL l = s
  | n, [], l, _, h => by rw [dcL_nil] at h; cases h; rfl
  | 0, c :: t, l, hn, _ => by simp at hn
  | n + 1, c :: t, l, hn, h => by
    cases hs : stp (c :: t) with
    | none => rw [dcL_none (by simp) hs] at h; cases h
    | some p =>
      obtain ⟨x, r⟩ := p
      have hl := stp_less hs
      rw [dcL_some hs] at h
      cases hd : dcL r with
      | none => rw [hd] at h; cases h
      | some m =>
        rw [hd] at h
        cases h
        rw [enL, dcL_inv n r m (by simp at hn hl ⊢; omega) hd, ← (stp_inv hs).1]

/-- What Decode answers: the list, and whether there is one. -/
def deL (s : List UInt8) : List En := match dcL s with
  | none => []
  | some l => if rgB l = true then l else []
def deB (s : List UInt8) : Bool := match dcL s with
  | none => false
  | some l => rgB l

theorem deL_right {s : List UInt8} (h : deB s = true) : Rg (deL s) ∧ enL (deL s) = s := by
  unfold deB at h
  unfold deL
  cases hd : dcL s with
  | none => rw [hd] at h; cases h
  | some l =>
    rw [hd] at h
    simp only at h ⊢
    rw [if_pos h]
    exact ⟨rg_of h, dcL_inv _ s l (Nat.le_refl _) hd⟩
theorem deL_no {s : List UInt8} (h : deB s = false) : deL s = [] := by
  unfold deB at h
  unfold deL
  cases hd : dcL s with
  | none => rfl
  | some l =>
    rw [hd] at h
    simp only at h ⊢
    rw [h]; rfl
theorem deL_enL {l : List En} (h : Rg l) : deL (enL l) = l ∧ deB (enL l) = true := by
  have hd : dcL (enL l) = some l := dcL_enL fun x hx => by
    have := mayB_iff.1 (h.may x hx); omega
  unfold deL deB
  rw [hd]
  simp only [rgB_of h]
  exact ⟨rfl, trivial⟩

/-- What Encode answers. -/
def ecS (l : List En) : ByteArray := ⟨(if rgB l = true then enL l else []).toArray⟩
def ecE (l : List En) : Int := if rgB l = true then 0 else 1
end

/-! EnMem -/
section
open Go.Shelf Go.RowKit Go.Lib Go.Sort

def encP (x : En) : List Value := [.string x.1, .string x.2]

/-- Draws and new blocks alone. -/
def GR (w w' : World) : Prop := ∃ q os', w' = grow (w.drewN q) os'

theorem GR.refl (w : World) : GR w w := ⟨0, #[], by rw [grow_empty]; rfl⟩

theorem GR.drew {w w' : World} (h : GR w w') : GR w w'.drew := by
  obtain ⟨q, os, rfl⟩ := h
  exact ⟨q + 1, os, rfl⟩

theorem GR.alloc {w w' : World} (h : GR w w') (o : Obj) : GR w (w'.alloc o) := by
  obtain ⟨q, os, rfl⟩ := h
  exact ⟨q, os ++ #[o], by rw [alloc_eq_grow, grow_grow]⟩

theorem GR.trans {u v w : World} (h : GR u v) (k : GR v w) : GR u w := by
  obtain ⟨q, os, rfl⟩ := h
  obtain ⟨p, os', rfl⟩ := k
  exact ⟨q + p, os ++ os', by show grow (grow ((u.drewN q).drewN p) os) os' = _; rw [grow_grow, World.drewN_drewN]⟩

theorem GR.below {w w' : World} (h : GR w w') : Below w.heap.size w w' := by
  obtain ⟨q, os, rfl⟩ := h
  exact ⟨rfl, rfl, rfl, by rw [size_grow]; exact Nat.le_add_right _ _, fun k hk => heap_grow_old _ _ (by simpa using hk)⟩

theorem new0 (W : World) (x y : Value) (t : TypeId) (n : Nat) (h : n = W.heap.size) : (W.alloc (.cells #[x, y] t)).cell? ⟨n, 0, none⟩ = some x := by subst h; simp

theorem new1 (W : World) (x y : Value) (t : TypeId) (n : Nat) (h : n = W.heap.size) : (W.alloc (.cells #[x, y] t)).cell? ⟨n, 1, none⟩ = some y := by subst h; simp

section
variable {α : Type} [Inhabited α]

def CellsK (enc : α → List Value) (k : Nat) (w : World) (b off : Nat) (l : List α) : Prop := ∀ t, t < l.length * k → w.cell? ⟨b, off + t, none⟩ = some (flatK enc k l.toArray)[t]!

/-- A slice that can be read. -/
def Row (enc : α → List Value) (k : Nat) (w : World) (v : Value) (l : List α) : Prop :=
  ∃ ao cap, v = .slice ao l.length cap ∧ l.length ≤ cap ∧ (ao = none → cap = 0) ∧ (l ≠ [] → ∃ b off, ao = some ⟨b, off, none⟩ ∧ b < w.heap.size ∧ CellsK enc k w b off l)

/-- A slice in memory newer than 'base', that can be written. -/
def Own (enc : α → List Value) (k base : Nat) (w : World) (v : Value) (l : List α) : Prop :=
  ∃ ao cap, v = .slice ao l.length cap ∧ l.length ≤ cap ∧ (ao = none → cap = 0) ∧ (l ≠ [] → ∃ b off, ao = some ⟨b, off, none⟩ ∧ base ≤ b ∧ b < w.heap.size ∧ HoldsK enc k w b off l.toArray)

variable {enc : α → List Value} {k base : Nat} {w w' : World} {v : Value} {l : List α}

theorem cells_of_holds {b off : Nat} (h : HoldsK enc k w b off l.toArray) : CellsK enc k w b off l := fun t ht => (h t (by simpa using ht)).1

theorem Own.row (h : Own enc k base w v l) : Row enc k w v l := by
  obtain ⟨ao, cap, e, h1, h2, h3⟩ := h
  refine ⟨ao, cap, e, h1, h2, fun hne => ?_⟩
  obtain ⟨b, off, e2, _, hb, hH⟩ := h3 hne
  exact ⟨b, off, e2, hb, cells_of_holds hH⟩

theorem Row.below (h : Row enc k w v l) (hb : Below w.heap.size w w') : Row enc k w' v l := by
  obtain ⟨ao, cap, e, h1, h2, h3⟩ := h
  refine ⟨ao, cap, e, h1, h2, fun hne => ?_⟩
  obtain ⟨b, off, e2, hlt, hH⟩ := h3 hne
  exact ⟨b, off, e2, Nat.lt_of_lt_of_le hlt hb.size, fun t ht => (hb.cell (p := ⟨b, off + t, none⟩) hlt).trans (hH t ht)⟩

theorem Own.below (h : Own enc k base w v l) (hb : Below w.heap.size w w') : Own enc k base w' v l := by
  obtain ⟨ao, cap, e, h1, h2, h3⟩ := h
  refine ⟨ao, cap, e, h1, h2, fun hne => ?_⟩
  obtain ⟨b, off, e2, hba, hlt, hH⟩ := h3 hne
  exact ⟨b, off, e2, hba, Nat.lt_of_lt_of_le hlt hb.size, fun t ht => ⟨(hb.cell (p := ⟨b, off + t, none⟩) hlt).trans (hH t ht).1, (hb.frozen (p := ⟨b, off + t, none⟩) hlt).trans (hH t ht).2⟩⟩

theorem Own.mono {base' : Nat} (h : Own enc k base w v l) (hb : base' ≤ base) : Own enc k base' w v l := by
  obtain ⟨ao, cap, e, h1, h2, h3⟩ := h
  refine ⟨ao, cap, e, h1, h2, fun hne => ?_⟩
  obtain ⟨b, off, e2, hba, r⟩ := h3 hne
  exact ⟨b, off, e2, Nat.le_trans hb hba, r⟩

theorem Own.nil : Own enc k base w (.slice none 0 0) ([] : List α) := ⟨none, 0, rfl, Nat.le_refl _, fun _ => rfl, fun h => absurd rfl h⟩

/-- What append's laws own. -/
theorem holds_of_owns {e : TypeId} {g n : Nat} {cur : Array Value} (hb : w.heap[g]? = some (.cells cur e (0, 0))) (hn : l.length = n) (hs : n * k ≤ cur.size) (ht : cur.toList.take (n * k) = (flatK enc k l.toArray).toList) : HoldsK enc k w g 0 l.toArray := by
  intro t htt
  have ht' : t < n * k := by rw [← hn]; simpa using htt
  refine ⟨?_, by simp [World.frozen?, hb]⟩
  have h1 : (cur.toList.take (n * k))[t]? = (flatK enc k l.toArray).toList[t]? := by rw [ht]
  rw [List.getElem?_take_of_lt ht', List.getElem?_eq_getElem (by simpa using (by omega : t < cur.size)), List.getElem?_eq_getElem (by rw [Array.length_toList]; exact htt)] at h1
  simp only [World.cell?, hb, Nat.zero_add]
  rw [getElem!_pos _ t htt]
  have h2 := Option.some.inj h1
  simp only [Array.getElem_toList] at h2
  rw [Array.getElem?_eq_getElem (by omega), h2]
  rfl

theorem own_of_owns {e : TypeId} {n : Nat} (hk : 0 < k) (h : w.ownsRow base e k v n (flatK enc k l.toArray).toList) : Own enc k base w v l := by
  obtain ⟨h0, h1⟩ := h
  have hn : l.length = n := by
    have : l.length * k = n * k := by simpa using h0
    exact Nat.eq_of_mul_eq_mul_right hk this
  rcases h1 with ⟨rfl, rfl⟩ | ⟨g, cap, cur, rfl, hb, hh, hc, hm, hs, ht⟩
  · obtain rfl : l = [] := List.length_eq_zero_iff.1 hn
    exact Own.nil
  · subst hn
    refine ⟨some ⟨g, 0, none⟩, cap, rfl, hc, (fun h => by cases h), fun hne => ⟨g, 0, rfl, hb, (Array.getElem?_eq_some_iff.1 hh).1, holds_of_owns hh rfl (by rw [hs]; exact Nat.mul_le_mul_right k hc) ht⟩⟩

theorem flatK_oneCell (h1 : ∀ x, ∀ v ∈ enc x, v.oneCell' = true) (hk : ∀ x, (enc x).length = k) : ∀ u ∈ (flatK enc k l.toArray).toList, u.oneCell' = true := fun u hu => by
  obtain ⟨t, ht, rfl⟩ := List.getElem_of_mem hu
  have ht' : t < l.length * k := by simpa using ht
  have hk0 : 0 < k := by
    rcases Nat.eq_zero_or_pos k with h | h
    · subst h; omega
    · exact h
  have e := get_flatK enc k l.toArray t (by simpa using ht')
  rw [getElem!_pos _ t (by simpa using ht')] at e
  rw [Array.getElem_toList, e]
  refine h1 l.toArray[t / k]! _ ?_
  rw [getElem!_pos (enc l.toArray[t / k]!) (t % k) (by rw [hk]; exact Nat.mod_lt _ hk0)]
  exact List.getElem_mem _

end

theorem encP_len (x : En) : (encP x).length = 2 := rfl

theorem encP_one (x : En) : ∀ v ∈ encP x, v.oneCell' = true := fun v hv => by simp [encP] at hv; rcases hv with rfl | rfl <;> rfl

theorem infoPair : (Tryz.prog.info? 39).map (fun i => (i.zero, i.size, i.bytes)) = some (some (.agg #[.string ⟨#[]⟩, .string ⟨#[]⟩]), 2, 32) := by kernel_rfl

section
variable {α : Type} [Inhabited α]

theorem bang_list (d : Array α) (i : Nat) : d[i]! = d.toList[i]! := by
  by_cases h : i < d.size
  · rw [getElem!_pos d i h, getElem!_pos d.toList i (by simpa using h)]; simp
  · rw [getElem!_neg d i h, getElem!_neg d.toList i (by simpa using h)]

theorem list_bang_ext {l l' : List α} (hs : l.length = l'.length) (h : ∀ i, i < l.length → l[i]! = l'[i]!) : l = l' := by
  apply List.ext_getElem hs
  intro i h1 h2
  have := h i h1
  rwa [getElem!_pos l i h1, getElem!_pos l' i h2] at this

theorem app_left (l r : List α) (i : Nat) (h : i < l.length) : (l ++ r)[i]! = l[i]! := by
  rw [getElem!_pos l i h, getElem!_pos (l ++ r) i (by simp; omega)]
  exact List.getElem_append_left h

theorem app_right (l r : List α) (i : Nat) : (l ++ r)[l.length + i]! = r[i]! := by
  by_cases h : i < r.length
  · rw [getElem!_pos r i h, getElem!_pos (l ++ r) _ (by simp; omega)]
    simp
  · rw [getElem!_neg r i h, getElem!_neg (l ++ r) _ (by simp; omega)]

theorem ownsRow_grown {W : World} {base : Nat} {e : TypeId} {k : Nat} {v : Value} {n : Nat} {xs : List Value} (h : W.ownsRow base e k v n xs) (m : Nat) (os : Array Obj) : (grow (W.drewN m) os).ownsRow base e k v n xs := by
  obtain ⟨h1, h2⟩ := h
  refine ⟨h1, ?_⟩
  rcases h2 with h2 | ⟨g, cap, cur, hv, hg, hh, r⟩
  · exact Or.inl h2
  · exact Or.inr ⟨g, cap, cur, hv, hg, by rw [heap_grow_old _ _ (by exact (Array.getElem?_eq_some_iff.1 hh).1)]; exact hh, r⟩

theorem flatK_snoc (enc : α → List Value) (k : Nat) (hk : ∀ x, (enc x).length = k) (l : List α) (x : α) : (flatK enc k (l ++ [x]).toArray).toList = (flatK enc k l.toArray).toList ++ enc x := by
  apply list_bang_ext
  · simp [hk, Nat.add_mul]
  · intro t ht
    have ht' : t < (l.length + 1) * k := by simpa using ht
    have hk0 : 0 < k := by
      rcases Nat.eq_zero_or_pos k with h | h
      · subst h; omega
      · exact h
    rw [← bang_list (flatK enc k (l ++ [x]).toArray) t, get_flatK _ _ _ _ (by simpa using ht')]
    by_cases c : t < l.length * k
    · rw [app_left _ _ _ (by simpa using c), ← bang_list (flatK enc k l.toArray) t, get_flatK _ _ _ _ (by simpa using c)]
      have : t / k < l.length := (Nat.div_lt_iff_lt_mul hk0).2 c
      congr 2
      rw [getElem!_pos _ _ (by simp; omega), getElem!_pos _ _ (by simpa using this)]
      simp [this]
    · obtain ⟨s, rfl⟩ : ∃ s, t = (flatK enc k l.toArray).toList.length + s := ⟨t - l.length * k, by simp; omega⟩
      rw [app_right]
      have hs : s < k := by
        rw [Nat.add_mul, Nat.one_mul] at ht'
        simp at ht'
        omega
      have e1 : ((flatK enc k l.toArray).toList.length + s) / k = l.length := by
        rw [Array.length_toList, size_flatK, List.size_toArray, Nat.mul_comm, Nat.mul_add_div hk0, Nat.div_eq_of_lt hs, Nat.add_zero]
      have e2 : ((flatK enc k l.toArray).toList.length + s) % k = s := by
        rw [Array.length_toList, size_flatK, List.size_toArray, Nat.mul_comm, Nat.mul_add_mod, Nat.mod_eq_of_lt hs]
      rw [e1, e2, getElem!_pos (l ++ [x]).toArray l.length (by simp)]
      simp

end

theorem row_of_owns {W : World} {base : Nat} {e : TypeId} {k : Nat} {v : Value} {n : Nat} {xs : List Value} (h : W.ownsRow base e k v n xs) : v.ownBlock = none ∨ ∃ r, v.ownBlock = some r ∧ base ≤ r := by
  rcases h.2 with ⟨rfl, _⟩ | ⟨g, cap, cur, rfl, hg, _⟩
  · exact Or.inl rfl
  · exact Or.inr ⟨g, rfl, hg⟩

theorem str_eq (a b : ByteArray) : (a.toList == b.toList) = decide (a = b) := by
  by_cases h : a = b
  · subst h; simp
  · rw [decide_eq_false h]
    simp only [beq_eq_false_iff_ne, ne_eq]
    exact fun e => h (baL_inj e)

theorem equalPair (a b c d : ByteArray) (w : World) : (Op.equalIn 10000 39 (.agg #[.string a, .string b]) (.agg #[.string c, .string d])).run Tryz.prog w = .ok (decide ((a, b) = (c, d))) w := by
  have u3 := Tryz.underlying9
  have a3 := Tryz.isAgg9
  have z3 := Tryz.sizeOf9
  have hS : Tryz.prog.underlying 39 = some (.struct (Tryz.prog.fieldsOf 39)) := by kernel_rfl
  have hp : Tryz.prog.stoodInHeld 39 = false := by kernel_rfl
  rw [show (10000 : Nat) = 9999 + 1 from rfl, run_equalIn_agg w 9999 39 _ _ hS hp]
  simp only [Program.fieldsOf, Tryz.underlying39]
  go_simp
  have t1 : ∀ {x y : ByteArray}, (x.toList = y.toList) = (x = y) := fun {x y} => propext ⟨baL_inj, fun h => by rw [h]⟩
  by_cases h1 : a = c <;> by_cases h2 : b = d <;> simp [h1, h2, t1]

theorem eqlPair (x y : En) (w : World) : Sem.run Tryz.prog (binOp .eql 39 (.agg (encP x).toArray) (.agg (encP y).toArray)) w = .ok (.bool (decide (x = y))) w := by
  obtain ⟨a, b⟩ := x
  obtain ⟨c, d⟩ := y
  simp only [encP]
  rw [run_eql_struct, equalPair]
  rfl

theorem neqPair (x y : En) (w : World) : Sem.run Tryz.prog (binOp .neq 39 (.agg (encP x).toArray) (.agg (encP y).toArray)) w = .ok (.bool (!decide (x = y))) w := by
  obtain ⟨a, b⟩ := x
  obtain ⟨c, d⟩ := y
  simp only [encP]
  rw [run_neq_struct, equalPair]
  rfl

theorem gdPair (op : BinOp) (a b : Operand) (x y : En) (w : World) : Sem.run Tryz.prog (eqGuard op 39 a b (.agg (encP x).toArray) (.agg (encP y).toArray)) w = .ok () w :=
  GuardAt.agg (P := Tryz.prog) (T := 39) (fun x : En => (encP x).toArray) (by kernel_rfl) op a b x y w

theorem row_at {w wr : World} {ao : Option Addr} {l : List En} (h3 : l ≠ [] → ∃ b off, ao = some ⟨b, off, none⟩ ∧ b < w.heap.size ∧ CellsK encP 2 w b off l) (i : Nat) (hi : i < l.length) (hb : Below w.heap.size w wr) :
    ∃ b off, ao = some ⟨b, off, none⟩ ∧ b < w.heap.size ∧ wr.cell? ⟨b, off + i * 2, none⟩ = some (.string l[i]!.1) ∧ wr.cell? ⟨b, off + i * 2 + 1, none⟩ = some (.string l[i]!.2) := by
  obtain ⟨b, off, e, hlt, hc⟩ := h3 (by intro h; rw [h] at hi; simp at hi)
  refine ⟨b, off, e, hlt, ?_, ?_⟩
  · rw [hb.cell (p := ⟨b, off + i * 2, none⟩) hlt, hc (i * 2) (by omega), get_flatK _ _ _ _ (by simp; omega), show i * 2 / 2 = i by omega, show i * 2 % 2 = 0 by omega]
    simp [encP]
  · rw [Nat.add_assoc, hb.cell (p := ⟨b, off + (i * 2 + 1), none⟩) hlt, hc (i * 2 + 1) (by omega), get_flatK _ _ _ _ (by simp; omega), show (i * 2 + 1) / 2 = i by omega, show (i * 2 + 1) % 2 = 1 by omega]
    simp [encP]

theorem eqlP {x y : En} {f : Bool} (h : decide (x = y) = f) (W : World) : Sem.run Tryz.prog (binOp .eql 39 (.agg #[.string x.1, .string x.2]) (.agg #[.string y.1, .string y.2])) W = .ok (.bool f) W := by
  have := eqlPair x y W
  rw [h] at this
  exact this

theorem neqP {x y : En} {f : Bool} (h : decide (x = y) = f) (W : World) : Sem.run Tryz.prog (binOp .neq 39 (.agg #[.string x.1, .string x.2]) (.agg #[.string y.1, .string y.2])) W = .ok (.bool !f) W := by
  have := neqPair x y W
  rw [h] at this
  exact this

theorem gdP (x y : En) (op : BinOp) (a b : Operand) (W : World) : Sem.run Tryz.prog (eqGuard op 39 a b (.agg #[.string x.1, .string x.2]) (.agg #[.string y.1, .string y.2])) W = .ok () W := gdPair op a b x y W

theorem take_next {α : Type} [Inhabited α] {l : List α} {i : Nat} (h : i < l.length) : l.take (i + 1) = l.take i ++ [l[i]!] := by
  rw [List.take_add_one, List.getElem?_eq_getElem h, getElem!_pos l i h]; rfl

theorem bang_mem {α : Type} [Inhabited α] {l : List α} {i : Nat} (h : i < l.length) : l[i]! ∈ l := by
  rw [getElem!_pos l i h]; exact List.getElem_mem h

theorem drop_here {α : Type} [Inhabited α] {l : List α} {i : Nat} (h : i < l.length) : l.drop i = l[i]! :: l.drop (i + 1) := by
  rw [List.drop_eq_getElem_cons h, getElem!_pos l i h]

theorem below_grown {B : Nat} {w W : World} (h : Below B w W) (hB : B ≤ W.heap.size) (n : Nat) (os : Array Obj) : Below B w (grow (W.drewN n) os) := h.trans ((GR.below (w := W) ⟨n, os, rfl⟩).mono hB)

/-- A row of pairs that the call has made by append. -/
abbrev OwnP (base : Nat) (W : World) (v : Value) (l : List En) : Prop := W.ownsRow base 39 2 v l.length (flatK encP 2 l.toArray).toList

theorem OwnP.empty (base : Nat) (W : World) : OwnP base W (.slice none 0 0) [] := by unfold OwnP; simpa [flatK] using World.ownsRow_nil W base 39 2

theorem OwnP.own {base : Nat} {W : World} {v : Value} {l : List En} (h : OwnP base W v l) : Own encP 2 base W v l := own_of_owns (by decide) h

theorem OwnP.step {base : Nat} {W w1 : World} {v v' : Value} {l : List En} {x : En} (hbase : base ≤ W.heap.size) (h : OwnP base W v l) (hgrow : W.grownBy w1 v.ownBlock) (hown : w1.ownsRow base 39 2 v' (l.length + 1) ((flatK encP 2 l.toArray).toList ++ encP x)) :
    OwnP base w1 v' (l ++ [x]) ∧ ∀ w0, Below base w0 W → Below base w0 w1 := by
  refine ⟨?_, fun w0 hb => hb.grown hgrow hbase fun k hk => ?_⟩
  · show w1.ownsRow base 39 2 v' (l ++ [x]).length (flatK encP 2 (l ++ [x]).toArray).toList
    rw [List.length_append, List.length_singleton, flatK_snoc encP 2 encP_len]
    exact hown
  · rcases row_of_owns h with hr | ⟨r, hr, hle⟩
    · rw [hr] at hk; cases hk
    · rw [hr] at hk; cases hk; exact hle

/-- One pair appended to such a row. -/
theorem app_pair {ops : Array Oper} {rest : List Oper} {o : Oper} {a : Act} {Q : Exit → Act → World → Prop} {w : World} (hgd : o.guard = .none) (s x : Operand)
    (ho : o.op = .call { callee := .builtin .append, args := #[s, x], argTypes := #[22, 22] }) (base : Nat) (v : Value) (l : List En) (hs : a.eval s = v) (hown : OwnP base w v l)
    (b off c : Nat) (hx : a.eval x = .slice (some ⟨b, off, .none⟩) 1 c) (y : En) (c0 : w.cell? ⟨b, off, .none⟩ = some (.string y.1)) (c1 : w.cell? ⟨b, off + 1, .none⟩ = some (.string y.2)) (hl : l.length < 1000000) (hbase : base ≤ w.heap.size)
    (h : ∀ ao n c w', OwnP base w' (.slice ao n c) (l ++ [y]) → (∀ w0, Below base w0 w → Below base w0 w') → wpList Tryz.prog ops Q rest (a.put o.dst (.slice ao n c)) w') : wpList Tryz.prog ops Q (o :: rest) a w := by
  obtain ⟨i0, hi, hz0, hz1, hz2⟩ := info_parts infoPair
  refine wpList_append_own w hgd s x 22 ho base 39 i0 _ 2 32 Tryz.underlying22 hi hz0 hz1 hz2 rfl (by decide) v _ _ hs hown ⟨b, off, .none⟩ 1 c (encP y) hx rfl ?_ (encP_one y) (by unfold maxLen; omega) (by omega) hbase ?_
  · intro j u hj
    simp only [encP] at hj
    match j, hj with
    | 0, hj => simp at hj; subst hj; simpa [Addr.add] using c0
    | 1, hj => simp at hj; subst hj; simpa [Addr.add] using c1
  · intro v' w' h1 h2 _
    obtain ⟨s1, s2⟩ := OwnP.step hbase hown h2 h1
    obtain ⟨ao', n', c', rfl⟩ : ∃ ao n c, v' = .slice ao n c := by
      rcases h1.2 with ⟨h, _⟩ | ⟨g, cap, cur, h, _⟩
      · exact ⟨_, _, _, h⟩
      · exact ⟨_, _, _, h⟩
    exact h _ _ _ _ s1 s2

theorem flatK_append {α : Type} [Inhabited α] (enc : α → List Value) (k : Nat) (hk : ∀ x, (enc x).length = k) : ∀ (m l : List α), (flatK enc k (l ++ m).toArray).toList = (flatK enc k l.toArray).toList ++ (flatK enc k m.toArray).toList
  | [], l => by simp [flatK]
  | x :: m, l => by
    have e1 : l ++ x :: m = (l ++ [x]) ++ m := by simp
    have e2 : (flatK enc k (x :: m).toArray).toList = enc x ++ (flatK enc k m.toArray).toList := by
      have h := flatK_append enc k hk m [x]
      have h2 := flatK_snoc enc k hk [] x
      rw [List.nil_append] at h2
      rw [h2] at h
      simpa [flatK] using h
    rw [e1, flatK_append enc k hk m (l ++ [x]), flatK_snoc enc k hk, e2, List.append_assoc]

theorem app_rowP {ops : Array Oper} {rest : List Oper} {o : Oper} {a : Act} {Q : Exit → Act → World → Prop} {w : World} (hgd : o.guard = .none) (s x : Operand)
    (ho : o.op = .call { callee := .builtin .append, args := #[s, x], argTypes := #[22, 22] }) (base : Nat) (v : Value) (l : List En) (hs : a.eval s = v) (hown : OwnP base w v l)
    (u : Value) (m : List En) (hx : a.eval x = u) (hu : Row encP 2 w u m) (hl : l.length + m.length < 1000000) (hbase : base ≤ w.heap.size) (lm : List En) (hlm : l ++ m = lm)
    (h : ∀ ao n c w', OwnP base w' (.slice ao n c) lm → (∀ w0, Below base w0 w → Below base w0 w') → wpList Tryz.prog ops Q rest (a.put o.dst (.slice ao n c)) w') : wpList Tryz.prog ops Q (o :: rest) a w := by
  subst hlm
  obtain ⟨i0, hi, hz0, hz1, hz2⟩ := info_parts infoPair
  obtain ⟨ao, cap, rfl, h1, h2, h3⟩ := hu
  obtain ⟨av, nv, cv, rfl⟩ : ∃ ao n c, v = .slice ao n c := by
    rcases hown.2 with ⟨h, _⟩ | ⟨g, cap, cur, h, _⟩
    · exact ⟨_, _, _, h⟩
    · exact ⟨_, _, _, h⟩
  cases ao with
  | none =>
    have hm : m = [] := by
      rcases List.eq_nil_or_concat m with e | ⟨m', y, e⟩
      · exact e
      · obtain ⟨b, off, e2, _⟩ := h3 (by rw [e]; simp)
        cases e2
    subst hm
    rw [h2 rfl] at hx
    refine wpList_append_own_none hgd s x 22 ho base 39 i0 2 Tryz.underlying22 hi _ _ _ hs hown hx ?_
    exact h _ _ _ _ (by rw [List.append_nil]; exact hown) (fun _ hb => hb)
  | some ad =>
    refine wpList_append_own w hgd s x 22 ho base 39 i0 _ 2 32 Tryz.underlying22 hi hz0 hz1 hz2 rfl (by decide) _ _ _ hs hown ad m.length cap (flatK encP 2 m.toArray).toList hx (by simp) ?_ (flatK_oneCell encP_one encP_len) (by unfold maxLen; omega) (by omega) hbase ?_
    · intro j u hj
      obtain ⟨hj1, hj2⟩ := List.getElem?_eq_some_iff.1 hj
      have hj3 : j < m.length * 2 := by simpa using hj1
      obtain ⟨b, off, e2, _, hc⟩ := h3 (by intro e; rw [e] at hj3; simp at hj3)
      cases e2
      rw [Go.WideShapes.add_plain, hc j hj3, getElem!_pos _ j (by simpa using hj3), ← hj2]
      simp
    · intro v' w' g1 g2 _
      obtain ⟨ao', n', c', rfl⟩ : ∃ ao n c, v' = .slice ao n c := by
        rcases g1.2 with ⟨h, _⟩ | ⟨g, cap, cur, h, _⟩
        · exact ⟨_, _, _, h⟩
        · exact ⟨_, _, _, h⟩
      refine h _ _ _ _ ?_ (fun w0 hb => hb.grown g2 hbase fun k hk => ?_)
      · show w'.ownsRow base 39 2 _ (l ++ m).length (flatK encP 2 (l ++ m).toArray).toList
        rw [List.length_append, flatK_append encP 2 encP_len]
        exact g1
      · rcases row_of_owns hown with hr | ⟨r, hr, hle⟩
        · rw [hr] at hk; cases hk
        · rw [hr] at hk; cases hk; exact hle

theorem ownsRow_below {W W' : World} {base : Nat} {e : TypeId} {k : Nat} {v : Value} {n : Nat} {xs : List Value} (h : W.ownsRow base e k v n xs) (hb : Below W.heap.size W W') : W'.ownsRow base e k v n xs := by
  obtain ⟨h1, h2⟩ := h
  refine ⟨h1, ?_⟩
  rcases h2 with h2 | ⟨g, cap, cur, hv, hg, hh, r⟩
  · exact Or.inl h2
  · exact Or.inr ⟨g, cap, cur, hv, hg, by rw [hb.block g (Array.getElem?_eq_some_iff.1 hh).1]; exact hh, r⟩

/-- A row that does not lie in block 'lo'. -/
def RowL (lo : Nat) (w : World) (v : Value) (l : List En) : Prop :=
  ∃ ao cap, v = .slice ao l.length cap ∧ l.length ≤ cap ∧ (ao = none → cap = 0) ∧ (l ≠ [] → ∃ b off, ao = some ⟨b, off, none⟩ ∧ b ≠ lo ∧ b < w.heap.size ∧ CellsK encP 2 w b off l)

/-- But for block 'lo' what was there is as it was. -/
def Kept (lo : Nat) (w W : World) : Prop := w.heap.size ≤ W.heap.size ∧ ∀ p : Addr, p.block ≠ lo → p.block < w.heap.size → W.cell? p = w.cell? p

theorem rowL_of_own {base bb : Nat} {w : World} {v : Value} {l : List En} (h : Own encP 2 base w v l) (hb : bb < base) : RowL bb w v l := by
  obtain ⟨ao, cap, e, h1, h2, h3⟩ := h
  refine ⟨ao, cap, e, h1, h2, fun hne => ?_⟩
  obtain ⟨b, off, e2, hl, hb', hH⟩ := h3 hne
  exact ⟨b, off, e2, by omega, hb', cells_of_holds hH⟩

theorem rowL_of_row {w : World} {v : Value} {l : List En} (h : Row encP 2 w v l) (o : Obj) : RowL w.heap.size (w.alloc o) v l := by
  obtain ⟨ao, cap, e, h1, h2, h3⟩ := h
  refine ⟨ao, cap, e, h1, h2, fun hne => ?_⟩
  obtain ⟨b, off, e2, hlt, hH⟩ := h3 hne
  exact ⟨b, off, e2, by omega, by simp; omega, fun t ht => Lib.cell?_alloc_some _ (hH t ht)⟩

theorem RowL.below {lo : Nat} {w W : World} {v : Value} {l : List En} (h : RowL lo w v l) (hb : Below w.heap.size w W) : RowL lo W v l := by
  obtain ⟨ao, cap, e, h1, h2, h3⟩ := h
  refine ⟨ao, cap, e, h1, h2, fun hne => ?_⟩
  obtain ⟨b, off, e2, hl, hlt, hH⟩ := h3 hne
  exact ⟨b, off, e2, hl, Nat.lt_of_lt_of_le hlt hb.size, fun t ht => (hb.cell (p := ⟨b, off + t, none⟩) hlt).trans (hH t ht)⟩

/-- A row's head. -/
theorem row_cons {lo : Nat} {w : World} {v : Value} {x : En} {l : List En} (h : RowL lo w v (x :: l)) :
    ∃ b off cap, v = .slice (some ⟨b, off, none⟩) (l.length + 1) cap ∧ l.length + 1 ≤ cap ∧ b ≠ lo ∧ b < w.heap.size ∧ w.cell? ⟨b, off, none⟩ = some (.string x.1) ∧ w.cell? ⟨b, off + 1, none⟩ = some (.string x.2) ∧
      ∀ ao, (l ≠ [] → ao = some ⟨b, off + 2, none⟩) → (ao = none → cap - 1 = 0) → RowL lo w (.slice ao l.length (cap - 1)) l := by
  obtain ⟨ao, cap, rfl, h1, h2, h3⟩ := h
  obtain ⟨b, off, rfl, hlo, hb, hc⟩ := h3 (by simp)
  have hlen : (x :: l).length = l.length + 1 := rfl
  have c0 := hc 0 (by rw [hlen]; omega)
  have c1 := hc 1 (by rw [hlen]; omega)
  rw [get_flatK _ _ _ _ (by simp)] at c0
  rw [get_flatK _ _ _ _ (by simp; omega)] at c1
  refine ⟨b, off, cap, rfl, h1, hlo, hb, by simpa [encP] using c0, by simpa [encP] using c1, fun ao ha hn => ⟨ao, cap - 1, rfl, by rw [hlen] at h1; omega, hn, fun hne => ⟨b, off + 2, ha hne, hlo, hb, fun t ht => ?_⟩⟩⟩
  have ct := hc (t + 2) (by rw [hlen]; omega)
  rw [get_flatK _ _ _ _ (by simp; omega)] at ct
  rw [get_flatK _ _ _ _ (by simpa using ht), show off + 2 + t = off + (t + 2) by omega, ct]
  have e1 : (t + 2) / 2 = t / 2 + 1 := by omega
  have e2 : (t + 2) % 2 = t % 2 := by omega
  rw [e1, e2]
  congr 3
  have ht2 : t / 2 < l.length := by omega
  rw [getElem!_pos _ _ (by simp; omega), getElem!_pos _ _ (by simpa using ht2)]
  simp

theorem row_block {α : Type} [Inhabited α] {enc : α → List Value} {k : Nat} {w : World} {b n : Nat} {T : TypeId} {fr : Nat × Nat} {cs : Array Value} {l : List α} (hb : w.heap[b]? = some (.cells cs T fr)) (hcs : cs = flatK enc k l.toArray) (hn : l.length = n) : Row enc k w (.slice (some ⟨b, 0, none⟩) n n) l := by
  subst hn
  refine ⟨_, _, rfl, Nat.le_refl _, (fun h => by cases h), fun _ => ⟨b, 0, rfl, (Array.getElem?_eq_some_iff.1 hb).1, fun t ht => ?_⟩⟩
  simp only [World.cell?, hb, Nat.zero_add, hcs]
  have ht' : t < (flatK enc k l.toArray).size := by simpa using ht
  rw [Array.getElem?_eq_getElem ht', getElem!_pos _ t ht']
  rfl
end

/-! EnOwn -/
section
open Go.Shelf Go.RowKit Go.Lib Go.Sort

section
variable {w w' : World} {q i k : Nat} {cs : Array Value} {t : TypeId}
/-- Block q holds these cells. -/
def Cl (w : World) (q : Nat) (cs : Array Value) (t : TypeId) : Prop := w.heap[q]? = some (.cells cs t (0, 0))
theorem Cl.lt (h : Cl w q cs t) : q < w.heap.size := (Array.getElem?_eq_some_iff.1 h).1
theorem Cl.cell (h : Cl w q cs t) (i : Nat) : w.cell? ⟨q, i, none⟩ = cs[i]? := by unfold Cl at h; simp [World.cell?, h]
theorem Cl.new (w : World) (cs : Array Value) (t : TypeId) : Cl (w.alloc (.cells cs t)) w.heap.size cs t := by
  show (w.heap.push _)[w.heap.size]? = _; simp
theorem Cl.below {B : Nat} (h : Cl w q cs t) (b : Below B w w') (hq : q < B) : Cl w' q cs t := (b.block q hq).trans h
theorem Cl.on (h : Cl w q cs t) (b : Below w.heap.size w w') : Cl w' q cs t := h.below b h.lt
theorem Cl.alloc (h : Cl w q cs t) (o : Obj) : Cl (w.alloc o) q cs t := h.on ((Below.refl _ _).alloc (Nat.le_refl _) _)
theorem Cl.two {a b : Value} (h : Cl w q #[a, b] t) : w.cell? ⟨q, 0, none⟩ = some a ∧ w.cell? ⟨q, 1, none⟩ = some b := ⟨h.cell 0, h.cell 1⟩
end

theorem flat_one (x : En) : #[Value.string x.1, Value.string x.2] = flatK encP 2 [x].toArray := by
  apply Array.ext'
  have := flatK_snoc encP 2 encP_len [] x
  rw [List.nil_append] at this
  rw [this]
  simp [flatK, encP]

theorem Cl.row {w : World} {q : Nat} {x : En} {t : TypeId} (h : Cl w q #[.string x.1, .string x.2] t) : Row encP 2 w (.slice (some ⟨q, 0, none⟩) 1 1) [x] :=
  row_block h (flat_one x) rfl

theorem Row.shape {w : World} {v : Value} {l : List En} (h : Row encP 2 w v l) : ∃ ao c, v = .slice ao l.length c ∧ l.length ≤ c := by
  obtain ⟨ao, cap, rfl, h1, _⟩ := h
  exact ⟨ao, cap, rfl, h1⟩

/-- A row's part. -/
theorem Row.part {w : World} {ao : Option Addr} {n c : Nat} {l : List En} (h : Row encP 2 w (.slice ao n c) l) (i j m : Nat) (hm : j = i + m) (hj : j ≤ l.length) (ao' : Option Addr) (hao : ∀ b off, ao = some ⟨b, off, none⟩ → m ≠ 0 → ao' = some ⟨b, off + i * 2, none⟩) (c' : Nat) (hc : m ≤ c') (hz : ao' = none → c' = 0) :
    Row encP 2 w (.slice ao' m c') ((l.drop i).take m) := by
  obtain ⟨ao1, cap, e, h1, h2, h3⟩ := h
  cases e
  have hlen : ((l.drop i).take m).length = m := by simp; omega
  refine ⟨ao', c', by rw [hlen], by rw [hlen]; exact hc, hz, fun hne => ?_⟩
  have hm0 : m ≠ 0 := by intro e; subst e; simp at hne
  obtain ⟨b, off, e, hlt, hcell⟩ := h3 (by intro e; subst e; simp at hj; omega)
  refine ⟨b, off + i * 2, hao b off e hm0, hlt, fun t ht => ?_⟩
  rw [hlen] at ht
  rw [Nat.add_assoc, hcell (i * 2 + t) (by omega), get_flatK _ _ _ _ (by simp; omega), get_flatK _ _ _ _ (by simp; omega)]
  have e1 : (i * 2 + t) / 2 = i + t / 2 := by omega
  have e2 : (i * 2 + t) % 2 = t % 2 := by omega
  rw [e1, e2, getElem!_pos l.toArray (i + t / 2) (by simp; omega), getElem!_pos ((l.drop i).take m).toArray (t / 2) (by simp; omega)]
  simp

/-- A row of the call's own, or an empty one without room. -/
def OwnZ (base : Nat) (w : World) (v : Value) (l : List En) : Prop := OwnP base w v l ∨ (l = [] ∧ ∃ ad, v = .slice (some ad) 0 0)

theorem OwnZ.own {base : Nat} {w : World} {v : Value} {l : List En} (h : OwnZ base w v l) : Own encP 2 base w v l := by
  rcases h with h | ⟨rfl, ad, rfl⟩
  · exact h.own
  · exact ⟨some ad, 0, rfl, Nat.le_refl _, (fun h => by cases h), fun h => absurd rfl h⟩
theorem OwnZ.empty (base : Nat) (w : World) (ao : Option Addr) : OwnZ base w (.slice ao 0 0) [] := by
  cases ao with
  | none => exact Or.inl (OwnP.empty _ _)
  | some ad => exact Or.inr ⟨rfl, ad, rfl⟩
theorem OwnZ.below {base : Nat} {w w' : World} {v : Value} {l : List En} (h : OwnZ base w v l) (hb : Below w.heap.size w w') : OwnZ base w' v l := by
  rcases h with h | h
  · exact Or.inl (ownsRow_below h hb)
  · exact Or.inr h
theorem OwnZ.mono {base base' : Nat} {w : World} {v : Value} {l : List En} (h : OwnZ base w v l) (hb : base' ≤ base) : OwnZ base' w v l := by
  rcases h with h | h
  · left
    refine ⟨h.1, ?_⟩
    rcases h.2 with h2 | ⟨g, cap, cur, hv, hg, r⟩
    · exact Or.inl h2
    · exact Or.inr ⟨g, cap, cur, hv, Nat.le_trans hb hg, r⟩
  · exact Or.inr h

theorem own_shape {base : Nat} {w : World} {v : Value} {n : Nat} {xs : List Value} (h : w.ownsRow base 39 2 v n xs) : ∃ ao c, v = .slice ao n c := by
  rcases h.2 with ⟨h, h2⟩ | ⟨g, cap, cur, h, _⟩
  · rw [h2]; exact ⟨_, _, h⟩
  · exact ⟨_, _, h⟩

theorem OwnP.other' {base : Nat} {W : World} {v : Value} {n : Nat} {xs : List Value} (h : W.ownsRow base 39 2 v n xs) : ∀ k, v.ownBlock = some k → base ≤ k := by
  intro k hk
  rcases row_of_owns h with hr | ⟨r, hr, hle⟩
  · rw [hr] at hk; cases hk
  · rw [hr] at hk; cases hk; exact hle

/-- What append does there. -/
theorem run_app_z {base : Nat} {w : World} {v u : Value} {l m : List En} (ty : TypeId) (h : OwnZ base w v l) (hu : Row encP 2 w u m) (hl : l.length + m.length < 1000000) (hbase : base ≤ w.heap.size) :
    ∃ ao n c w', (Builtin.append_ #[22, 22] ty #[v, u]).run Tryz.prog w = .ok (.slice ao n c) w' ∧ OwnZ base w' (.slice ao n c) (l ++ m) ∧ (∀ w0, Below base w0 w → Below base w0 w') := by
  obtain ⟨i0, hi, hz0, hz1, hz2⟩ := info_parts infoPair
  have ht := Tryz.underlying22
  obtain ⟨ao, cap, rfl, h1, h2, h3⟩ := hu
  have news : ∀ ad, ao = some ad → ∀ j u, (flatK encP 2 m.toArray).toList[j]? = some u → w.cell? (ad.add j) = some u := by
    intro ad e j u hj
    obtain ⟨hj1, hj2⟩ := List.getElem?_eq_some_iff.1 hj
    have hj3 : j < m.length * 2 := by simpa using hj1
    obtain ⟨b, off, e2, _, hc⟩ := h3 (by intro e; rw [e] at hj3; simp at hj3)
    rw [e] at e2
    cases e2
    rw [Go.WideShapes.add_plain, hc j hj3, getElem!_pos _ j (by simpa using hj3), ← hj2]
    simp
  have mnil : ao = none → m = [] := by
    intro e
    rcases List.eq_nil_or_concat m with e1 | ⟨m', y, e1⟩
    · exact e1
    · obtain ⟨b, off, e2, _⟩ := h3 (by rw [e1]; simp)
      rw [e] at e2; cases e2
  rcases h with h | ⟨rfl, ad0, rfl⟩
  · cases ao with
    | none =>
      have hm := mnil rfl
      subst hm
      have hc0 := h2 rfl
      subst hc0
      obtain ⟨av, cv, rfl⟩ := own_shape h
      exact ⟨_, _, _, w, run_append_owned_none (P := Tryz.prog) w base _ ty _ i0 2 ht hi _ _ _ h, by rw [List.append_nil]; exact Or.inl h, fun _ hb => hb⟩
    | some ad =>
      obtain ⟨v', w', hr, g1, g2, _⟩ := run_append_own (P := Tryz.prog) w base 22 ty 39 i0 _ 2 32 ht hi hz0 hz1 hz2 rfl (by decide) v _ _ h ad m.length cap (flatK encP 2 m.toArray).toList (by simp) (news ad rfl) (flatK_oneCell encP_one encP_len) (by unfold maxLen; omega) (by omega) hbase
      obtain ⟨av, cv, rfl⟩ := own_shape g1
      refine ⟨_, _, _, w', hr, Or.inl ?_, fun w0 hb => hb.grown g2 hbase fun k hk => OwnP.other' h k hk⟩
      show w'.ownsRow base 39 2 _ (l ++ m).length (flatK encP 2 (l ++ m).toArray).toList
      rw [List.length_append, flatK_append encP 2 encP_len]
      exact g1
  · by_cases hm : m = []
    · subst hm
      refine ⟨some ad0, 0, 0, w, ?_, Or.inr ⟨rfl, ad0, rfl⟩, fun _ hb => hb⟩
      cases ao with
      | none => simp [Builtin.append_, run_underlying ht, sizeOf, typeInfo, hi, Builtin.lenOf, Builtin.firstCells, storeCells]
      | some ad =>
        have hfc := run_firstCells_some (P := Tryz.prog) w i0.size 0 ad 0 cap [] (by simp) (fun j u hj => by simp at hj)
        simp [Builtin.append_, run_underlying ht, sizeOf, typeInfo, hi, Builtin.lenOf, hfc, storeCells]
    · have hpos : 0 < m.length := List.length_pos_iff.2 hm
      cases ao with
      | none => exact absurd (mnil rfl) hm
      | some ad =>
        obtain ⟨v', w', hr, g1, g2⟩ := run_append_arg_grows (P := Tryz.prog) w 22 ty 39 i0 _ 2 32 ht hi hz0 hz1 hz2 rfl (by decide) ad0 0 0 [] (by simp) (by intro j u hj; simp at hj) ad m.length cap (flatK encP 2 m.toArray).toList (by simp) (news ad rfl) (by omega) (by unfold maxLen; omega) (by omega)
        obtain ⟨av, cv, rfl⟩ := own_shape g1
        refine ⟨_, _, _, w', hr, Or.inl ?_, fun w0 hb => hb.grown g2 hbase fun k hk => by cases hk⟩
        have g3 : w'.ownsRow w.heap.size 39 2 (.slice av (0 + m.length) cv) m.length (flatK encP 2 m.toArray).toList := by
          have e : 0 + m.length = m.length := Nat.zero_add _
          rw [e] at g1 ⊢
          simpa using g1
        rcases OwnZ.mono (Or.inl g3) hbase with g4 | ⟨g4, _⟩
        · exact g4
        · exact absurd g4 hm

/-- append, as the walk meets it. -/
theorem app_z {ops : Array Oper} {rest : List Oper} {o : Oper} {a : Act} {Q : Exit → Act → World → Prop} {w : World} (hgd : o.guard = .none) (s x : Operand)
    (ho : o.op = .call { callee := .builtin .append, args := #[s, x], argTypes := #[22, 22] }) (base : Nat) (v : Value) (l : List En) (hs : a.eval s = v) (hown : OwnZ base w v l)
    (u : Value) (m : List En) (hx : a.eval x = u) (hu : Row encP 2 w u m) (hl : l.length + m.length < 1000000) (hbase : base ≤ w.heap.size) (lm : List En) (hlm : l ++ m = lm)
    (h : ∀ ao n c w', OwnZ base w' (.slice ao n c) lm → (∀ w0, Below base w0 w → Below base w0 w') → wpList Tryz.prog ops Q rest (a.put o.dst (.slice ao n c)) w') : wpList Tryz.prog ops Q (o :: rest) a w := by
  subst hlm
  refine wpList_plain hgd fun K hK' => ?_
  obtain ⟨ao, n, c, w', hrun, h1, h2⟩ := run_app_z o.type hown hu hl hbase
  unfold Oper.wp
  simp [execOp, ho, resolve, invoke, builtin, hs, hx, hrun, Result.andThen]
  exact hK' _ _ (h ao n c w' h1 h2)

/-- append, as one step of a region that draws its order. -/
theorem step_z {ops : Array Oper} {o : Oper} {a : Act} {K : Act → World → Prop} {Q : Exit → Act → World → Prop} {E : Prop} {w : World} (hg : o.guard = none) (s x : Operand)
    (ho : o.op = .call { callee := .builtin .append, args := #[s, x], argTypes := #[22, 22] }) (base : Nat) (v : Value) (l : List En) (hs : a.eval s = v) (hown : OwnZ base w v l)
    (u : Value) (m : List En) (hx : a.eval x = u) (hu : Row encP 2 w u m) (hl : l.length + m.length < 1000000) (hbase : base ≤ w.heap.size) (lm : List En) (hlm : l ++ m = lm)
    (h : ∀ ao n c w', OwnZ base w' (.slice ao n c) lm → (∀ w0, Below base w0 w → Below base w0 w') → K (a.put o.dst (.slice ao n c)) w') :
    if Region.wanted o (yielded ops a.tmps) = true then Oper.wp Tryz.prog o a w K Q else E := by
  subst hlm
  have hw : Region.wanted o (yielded ops a.tmps) = true := by simp [Region.wanted, hg]
  rw [if_pos hw]
  obtain ⟨ao, n, c, w', hrun, h1, h2⟩ := run_app_z o.type hown hu hl hbase
  unfold Oper.wp execOp
  simp only [ho, resolve, invoke, builtin, Sem.run_bind, Sem.run_pure, Result.andThen_ok, List.map_toArray, List.map_cons, List.map_nil, hs, hx, hrun]
  exact h ao n c w' h1 h2
end

/-! EnSmall -/
section
open Go.Shelf Go.RowKit Go.Lib Go.Sort

/-- What Check answers. -/
def chkE (k v : ByteArray) : Int := if mayB k v = true then 0 else 110

theorem ret_b {a b : Bool} (h : a = b) : Ending.returned (.bool a) = Ending.returned (.bool b) := by rw [h]
theorem ret_i {a b : Int} (h : a = b) : Ending.returned (.int .i64 a) = Ending.returned (.int .i64 b) := by rw [h]

theorem chkE_no {k v : ByteArray} (h : ¬ (1 ≤ k.size ∧ k.size ≤ 16 ∧ v.size ≤ 40)) : chkE k v = 110 := by
  unfold chkE
  rw [if_neg fun c => h (mayB_iff.1 c)]
theorem chkE_yes {k v : ByteArray} (h : 1 ≤ k.size ∧ k.size ≤ 16 ∧ v.size ≤ 40) : chkE k v = 0 := by
  unfold chkE
  rw [if_pos (mayB_iff.2 h)]

theorem toL_size (s : ByteArray) : s.toList.length = s.size := by rw [Lib.toList_data, Lib.size_eq]

theorem empty_of {k : ByteArray} (h : k.size = 0) : k = ⟨#[]⟩ := by
  apply ByteArray.ext
  apply Array.toList_inj.1
  rw [Lib.size_eq] at h
  exact List.eq_nil_of_length_eq_zero h
theorem toL_ne {k : ByteArray} (h : k.size ≠ 0) : ¬ k.toList = [] := by
  intro e
  have := congrArg List.length e
  rw [toL_size] at this
  exact h this
theorem toL_full {k : ByteArray} (h : k.size ≠ 0) : k.toList.isEmpty = false := by
  cases e : k.toList with
  | nil => exact absurd e (toL_ne h)
  | cons a l => rfl

set_option maxHeartbeats 1000000 in
theorem check_any (k v : ByteArray) (w : World) : Calls Tryz.prog 21 #[.string k, .string v] w fun e w' => e = .returned (.int .i64 (chkE k v)) ∧ w = w' := by
  by_cases h1 : k.size = 0
  · have E : Hid (chkE k v = 110) := chkE_no (by omega)
    obtain rfl : k = ⟨#[]⟩ := empty_of h1
    clear h1
    go_enter Tryz.func21, Tryz.ntmps21
    go_wp2
    go_ret
    exact ⟨ret_i E.out.symm, rfl⟩
  · have e1 := toL_full h1
    have e2 := toL_ne h1
    by_cases h2 : (16 : Int) < (k.size : Int)
    · have E : Hid (chkE k v = 110) := chkE_no (by omega)
      go_enter Tryz.func21, Tryz.ntmps21
      go_wp2
      go_ret
      exact ⟨ret_i E.out.symm, rfl⟩
    · by_cases h3 : (40 : Int) < (v.size : Int)
      · have E : Hid (chkE k v = 110) := chkE_no (by omega)
        go_enter Tryz.func21, Tryz.ntmps21
        go_wp2
        go_ret
        exact ⟨ret_i E.out.symm, rfl⟩
      · have E : Hid (chkE k v = 0) := chkE_yes (by omega)
        go_enter Tryz.func21, Tryz.ntmps21
        go_wp2
        go_ret
        exact ⟨ret_i E.out.symm, rfl⟩

/-- What is found: the place, and whether the key stands there. -/
def Fnd (l : List En) (k : ByteArray) (i : Nat) (f : Bool) : Prop := i ≤ l.length ∧ (f = true → i < l.length) ∧ (Rg l → i = fdN l k ∧ f = fdB l k)

theorem Fnd.at {l : List En} {k : ByteArray} {i : Nat} {f : Bool} (hi : i ≤ l.length) (h1 : Rg l → (∀ t, t < i → ltK l[t]!.1 k = true) ∧ (∀ t, i ≤ t → t < l.length → ltK l[t]!.1 k = false)) (hf : f = true ↔ i < l.length ∧ l[i]!.1 = k) : Fnd l k i f := by
  refine ⟨hi, fun e => (hf.1 e).1, fun hr => ?_⟩
  have e := fdN_of hr hi (h1 hr).1 (h1 hr).2
  refine ⟨e, ?_⟩
  rw [Bool.eq_iff_iff, hf, fdB_at hr k, ← e]
end

/-! EnRight -/
section
open Go.Shelf Go.RowKit Go.Lib Go.Sort

theorem GR.drewN {w w' : World} (h : GR w w') (n : Nat) : GR w (w'.drewN n) := by
  obtain ⟨q, os, rfl⟩ := h
  exact ⟨q + n, os, by show grow ((w.drewN q).drewN n) os = _; rw [World.drewN_drewN]⟩

/-- Check in a region that draws. -/
theorem check_q (k v : ByteArray) (e : Int) (he : chkE k v = e) (W : World) : ∀ m, Calls Tryz.prog 21 #[.string k, .string v] (W.drewN m) fun r w' => r = .returned (.int .i64 e) ∧ ∃ m', w' = W.drewN m' := fun m =>
  (check_any k v (W.drewN m)).mono fun _ _ ⟨h1, h2⟩ => ⟨by rw [h1, he], m, h2.symm⟩

theorem okE_of {l : List En} {i : Nat} {b c : Bool} (h1 : mayB l[i]!.1 l[i]!.2 = b) (h2 : (i == 0 || ltK l[i - 1]!.1 l[i]!.1) = c) : okE l i = (b && c) := by
  unfold okE; rw [h1, h2]

theorem chkE_of {k v : ByteArray} : chkE k v = if mayB k v = true then 0 else 110 := rfl

set_option maxHeartbeats 4000000 in
set_option maxRecDepth 100000 in
theorem right_any (v : Value) (l : List En) (w : World) (h : Row encP 2 w v l) (hl : l.length ≤ 1000000) :
    Calls Tryz.prog 61 #[v] w fun e w' => e = .returned (.bool (rgB l)) ∧ Below w.heap.size w w' := by
  obtain ⟨ao, cap, rfl, h1, h2, h3⟩ := h
  have H3 : Aside (l ≠ [] → ∃ b off, ao = some ⟨b, off, none⟩ ∧ b < w.heap.size ∧ CellsK encP 2 w b off l) := h3
  clear h3
  go_enter Tryz.func61, Tryz.ntmps61
  go_wp2
  go_loopg [7] l.length (fun kx s7 wr => ∃ (i : Nat), s7 = .int .i64 i ∧ i ≤ l.length ∧ l.length - i ≤ kx ∧ Hid (GR w wr) ∧ Hid (∀ j, j < i → okE l j = true))
  case atStart => exact ⟨0, rfl, Nat.zero_le _, Nat.le_refl _, GR.refl _, fun j hj => absurd hj (Nat.not_lt_zero _)⟩
  case round =>
    obtain ⟨i, rfl, hi, hki, HG, HN⟩ := hrel
    by_cases hil : i < l.length
    · have hilz : (i : Int) < (l.length : Int) := by omega
      obtain ⟨b, off, rfl, hb, x1, x2⟩ := row_at H3.out i hil HG.out.below
      obtain ⟨x, hx⟩ : ∃ x, l[i]! = x := ⟨_, rfl⟩
      rw [hx] at x1 x2
      have X : Hid (l[i]! = x) := hx
      clear hx
      have HG2 : Hid (GR w (wr.alloc (.cells #[.string x.1, .string x.2] 39))) := HG.out.alloc _
      have y1 : (wr.alloc (.cells #[.string x.1, .string x.2] 39)).cell? ⟨wr.heap.size, 0, none⟩ = some (.string x.1) := by simp
      have hsz : wr.heap.size < (wr.alloc (.cells #[.string x.1, .string x.2] 39)).heap.size := by simp
      have y2 : (wr.alloc (.cells #[.string x.1, .string x.2] 39)).cell? ⟨wr.heap.size, 1, none⟩ = some (.string x.2) := by simp
      cases hm : mayB x.1 x.2
      · have Q1 : Hid _ := check_q x.1 x.2 110 (by rw [chkE_of, hm]; rfl) (wr.alloc (.cells #[.string x.1, .string x.2] 39))
        have RF : Hid (rgB l = false) := rgB_no i hil (okE_of (b := false) (c := (i == 0 || ltK l[i - 1]!.1 l[i]!.1)) (by rw [X.out]; exact hm) rfl)
        clear HN hm
        go_upto_region 4 with fail
        generalize wr.alloc (.cells #[.string x.1, .string x.2] 39) = W at *
        go_quiet ((go_at_call 21; with_reducible exact Q1.out _))
        go_wp2
        go_ret
        exact ⟨ret_b RF.out.symm, (HG2.out.drewN _).below⟩
      · have Q1 : Hid _ := check_q x.1 x.2 0 (by rw [chkE_of, hm]; rfl) (wr.alloc (.cells #[.string x.1, .string x.2] 39))
        have M : Hid (mayB x.1 x.2 = true) := hm
        clear hm
        rcases Nat.eq_zero_or_pos i with hi0 | hi0
        · have N2 : Hid (∀ j, j < i + 1 → okE l j = true) := fun j hj => by
            obtain rfl : j = i := by omega
            rw [okE_of (b := true) (c := true) (by rw [X.out]; exact M.out) (by rw [hi0]; rfl)]; rfl
          have hd : decide ((0 : Int) < (i : Int)) = false := by rw [hi0]; decide
          have hd2 : decide (0 < i) = false := by rw [hi0]; decide
          clear HN hi0
          go_upto_region 4 with fail
          generalize wr.alloc (.cells #[.string x.1, .string x.2] 39) = W at *
          go_quiet ((go_at_call 21; with_reducible exact Q1.out _))
          go_wp2
          go_roundg (l.length - (i + 1))
          case measure => omega
          case rel => exact ⟨i + 1, by go_num, by omega, Nat.le_refl _, HG2.out.drewN _, N2⟩
        · obtain ⟨i, rfl⟩ : ∃ i', i = i' + 1 := ⟨i - 1, by omega⟩
          clear hi0
          obtain ⟨b2, off2, e2, hb2, z1, _⟩ := row_at H3.out i (by omega) HG.out.below
          cases e2
          obtain ⟨y, hy⟩ : ∃ y, l[i]! = y := ⟨_, rfl⟩
          rw [hy] at z1
          have Y : Hid (l[i]! = y) := hy
          clear hy
          have z2 : (wr.alloc (.cells #[.string x.1, .string x.2] 39)).cell? ⟨b, off + i * 2, none⟩ = some (.string y.1) := Lib.cell?_alloc_some _ z1
          cases hlt : ltK y.1 x.1
          · have RF : Hid (rgB l = false) := rgB_no (i + 1) hil (okE_of (b := true) (c := false) (by rw [X.out]; exact M.out) (by
              rw [show i + 1 - 1 = i from rfl, X.out, Y.out, hlt]; rfl))
            have hlt2 : Op.bytesLess y.1.toList x.1.toList = false := hlt
            clear HN hlt
            go_upto_region 4 with fail
            generalize wr.alloc (.cells #[.string x.1, .string x.2] 39) = W at *
            go_quiet ((go_at_call 21; with_reducible exact Q1.out _))
            go_wp2
            go_ret
            exact ⟨ret_b RF.out.symm, (HG2.out.drewN _).below⟩
          · have N2 : Hid (∀ j, j < i + 1 + 1 → okE l j = true) := fun j hj => by
              rcases Nat.lt_or_ge j (i + 1) with c | c
              · exact HN.out j c
              · obtain rfl : j = i + 1 := by omega
                rw [okE_of (b := true) (c := true) (by rw [X.out]; exact M.out) (by rw [show i + 1 - 1 = i from rfl, X.out, Y.out, hlt]; simp)]; rfl
            have hlt2 : Op.bytesLess y.1.toList x.1.toList = true := hlt
            clear HN hlt
            go_upto_region 4 with fail
            generalize wr.alloc (.cells #[.string x.1, .string x.2] 39) = W at *
            go_quiet ((go_at_call 21; with_reducible exact Q1.out _))
            go_wp2
            go_roundg (l.length - (i + 1 + 1))
            case measure => omega
            case rel => exact ⟨i + 1 + 1, by go_num, by omega, Nat.le_refl _, HG2.out.drewN _, N2⟩
    · have hilz : ¬ (i : Int) < (l.length : Int) := by omega
      obtain rfl : i = l.length := by omega
      have RT : Hid (rgB l = true) := rgB_yes HN.out
      clear HN
      go_wp2
      go_ret
      exact ⟨ret_b RT.out.symm, HG.out.below⟩
end

/-! EnProg -/
section
open Go.Shelf Go.RowKit Go.Lib Go.Sort

/-- A new row of entries is answered; nothing that was there has turned. -/
def Gv (w : World) (l : List En) (e : Ending) (w' : World) : Prop := ∃ v', e = .returned v' ∧ Own encP 2 w.heap.size w' v' l ∧ Below w.heap.size w w'

theorem enSlU : Tryz.prog.underlying 22 = some (.slice (Tryz.prog.elem 22)) := by kernel_rfl
theorem enSlZ (u : World) : (sizeOf (Tryz.prog.elem 22)).run Tryz.prog u = .ok 2 u := by kernel_rfl

theorem add0 (a : Addr) : a.add 0 = a := by
  cases a; simp [Addr.add]
theorem run_pre (ao : Option Addr) (n c k : Nat) (hk : k ≤ c) (u : World) : (Instr.slice 22 (.slice ao n c) none (some (.int .i64 (k : Int))) none).run Tryz.prog u = .ok (.slice ao k c) u := by
  rw [run_slice_h u 22 ao n c enSlU .i64 k (by omega) (by omega), enSlZ]
  simp only [Result.andThen, sliced, Int.toNat_natCast]
  cases ao <;> simp [add0]
theorem run_zero (ao : Option Addr) (n c : Nat) (u : World) : (Instr.slice 22 (.slice ao n c) none (some (.int .i64 0)) (some (.int .i64 0))).run Tryz.prog u = .ok (.slice ao 0 0) u := by
  rw [run_slice_hm u 22 ao n c enSlU .i64 .i64 0 0 (by omega) (by omega) (by omega), enSlZ]
  simp [Result.andThen, sliced]
theorem run_suf (ao : Option Addr) (n c k : Nat) (hk : k ≤ n) (u : World) : (Instr.slice 22 (.slice ao n c) (some (.int .i64 (k : Int))) none none).run Tryz.prog u = .ok (.slice (if c = k then ao else ao.map (·.add (k * 2))) (n - k) (c - k)) u := by
  rw [run_slice_l u 22 ao n c enSlU .i64 k (by omega) (by omega), enSlZ]
  simp [Result.andThen, sliced]

theorem Row.plain {w : World} {ao : Option Addr} {n c : Nat} {l : List En} (h : Row encP 2 w (.slice ao n c) l) (hne : l ≠ []) : ∃ g o, ao = some ⟨g, o, none⟩ := by
  obtain ⟨ao1, cap, e, h1, h2, h3⟩ := h
  cases e
  obtain ⟨b, off, e, _⟩ := h3 hne
  exact ⟨b, off, e⟩

theorem Row.pre {w : World} {ao : Option Addr} {n c : Nat} {l : List En} (h : Row encP 2 w (.slice ao n c) l) (k : Nat) (hk : k ≤ l.length) : Row encP 2 w (.slice ao k c) (l.take k) := by
  have e := h
  obtain ⟨ao1, cap, e1, h1, h2, h3⟩ := e
  cases e1
  have := h.part 0 k k (by omega) hk ao (fun b off e _ => by rw [e]; simp) c (by omega) h2
  simpa using this
theorem Row.suf {w : World} {ao : Option Addr} {n c : Nat} {l : List En} (h : Row encP 2 w (.slice ao n c) l) (k : Nat) (hk : k ≤ l.length) : Row encP 2 w (.slice (if c = k then ao else ao.map (·.add (k * 2))) (n - k) (c - k)) (l.drop k) := by
  have e := h
  obtain ⟨ao1, cap, e1, h1, h2, h3⟩ := e
  cases e1
  have := h.part k l.length (l.length - k) (by omega) (Nat.le_refl _) (if c = k then ao else ao.map (·.add (k * 2))) (fun b off e hm => by
    rw [if_neg (by omega), e]
    show some (Addr.add ⟨b, off, none⟩ (k * 2)) = _
    rw [Go.WideShapes.add_plain]) (c - k) (by omega) (fun e => by
    by_cases c1 : c = k
    · omega
    · rw [if_neg c1] at e
      have : ao = none := by cases ao with
        | none => rfl
        | some a => simp at e
      have := h2 this
      omega)
  rwa [List.take_of_length_le (by simp)] at this

theorem Row.to {w w' : World} {v : Value} {l : List En} {B : Nat} (h : Row encP 2 w v l) (hb : Below B w w') (hB : w.heap.size ≤ B) : Row encP 2 w' v l := h.below (hb.mono hB)

theorem Row.drewN {w : World} {v : Value} {l : List En} (h : Row encP 2 w v l) (n : Nat) : Row encP 2 (w.drewN n) v l := h.below ((GR.refl w).drewN n).below

set_option maxHeartbeats 2000000 in
set_option maxRecDepth 100000 in
theorem clone_empty (a : Addr) (c : Nat) (w : World) : Calls Tryz.prog 20 #[.slice (some a) 0 c] w (Gv w ([] : List En)) := by
  obtain ⟨i0, hi, hz0, hz1, hz2⟩ := info_parts infoPair
  have q22 : ∀ (w : World) (a : Option Addr) (n c n' c' : Nat), (binOp .eql 22 (.slice a n c) (.slice none n' c')).run Tryz.prog w = .ok (.bool a.isNone) w := fun w a n c n' c' => Lib.run_eql_slice_nil w _ _ a n c n' c' Tryz.underlying22
  go_enter Tryz.func20, Tryz.ntmps20
  go_wp2_with (at_builtin; refine wpList_append_own _ rfl _ _ 22 rfl w.heap.size 39 i0 _ 2 32 Tryz.underlying22 hi hz0 hz1 hz2 rfl (by decide) _ _ _ rfl (World.ownsRow_made w #[] 0 (Nat.le_refl _) (Nat.zero_le _) (by simp)) a 0 c [] rfl rfl (fun j u hj => by simp at hj) (fun u hu => by simp at hu) (by simp [maxLen]) (by simp) (by simp) ?_)
  intro v' w1 hown hgrow hnil
  go_wp2
  go_ret
  refine ⟨v', rfl, own_of_owns (n := 0) (by decide) (by simpa [flatK] using hown), ?_⟩
  exact ((Below.refl _ w).alloc (Nat.le_refl _) _).grown hgrow (by simp) (by intro k hk; simp [Value.ownBlock] at hk; omega)

theorem clone_any (v : Value) (l : List En) (w : World) (h : Row encP 2 w v l) (hl : l.length ≤ 1000000) : Calls Tryz.prog 20 #[v] w (Gv w l) := by
  obtain ⟨ao, cap, rfl, h1, h2, h3⟩ := h
  by_cases hne : l = []
  · subst hne
    cases ao with
    | none =>
      refine (AnyE.slices_Clone_nil Tryz.cloneEntry _ _ w).mono ?_
      rintro e w' ⟨rfl, rfl⟩
      exact ⟨_, rfl, Own.nil, Below.refl _ _⟩
    | some a => exact clone_empty a cap w
  · obtain ⟨b, off, rfl, hb, hc⟩ := h3 hne
    obtain ⟨i0, hi, hz0, hz1, hz2⟩ := info_parts infoPair
    refine (AnyE.slices_Clone Tryz.cloneEntry i0 _ 2 32 hi hz0 hz1 hz2 rfl (by decide) Tryz.sizeOf39 b off l.length cap (flatK encP 2 l.toArray).toList w (by simp) (by unfold maxLen; omega) (by omega) (fun j u hj => ?_) (flatK_oneCell encP_one encP_len)).mono ?_
    · obtain ⟨hj1, hj2⟩ := List.getElem?_eq_some_iff.1 hj
      have hj3 : j < l.length * 2 := by simpa using hj1
      rw [hc j hj3, getElem!_pos _ j (by simpa using hj3), ← hj2]
      simp
    · rintro e w' ⟨v', rfl, hown, _, hbel⟩
      exact ⟨v', rfl, own_of_owns (by decide) hown, hbel⟩

/-- What Get answers. -/
def geV (l : List En) (k : ByteArray) : ByteArray := if rgB l = true then gtV l k else ⟨#[]⟩
def geB (l : List En) (k : ByteArray) : Bool := rgB l && fdB l k
/-- What Put and Delete answer. -/
def puL (l : List En) (k v : ByteArray) : List En := if (mayB k v && rgB l) = true then ptL l k v else l
def deE (l : List En) (k : ByteArray) : List En := if rgB l = true then dlL l k else l

theorem geV_no {l : List En} {k : ByteArray} {i : Nat} {f : Bool} (hf : Fnd l k i f) (h : f = false ∨ rgB l = false) : geV l k = ⟨#[]⟩ ∧ geB l k = false := by
  unfold geV geB
  cases hr : rgB l
  · exact ⟨rfl, rfl⟩
  · have h2 := (hf.2.2 (rg_of hr)).2
    rcases h with h | h
    · rw [h] at h2
      rw [← h2, gtV_no h2.symm]
      exact ⟨rfl, rfl⟩
    · rw [hr] at h; cases h
theorem geV_yes {l : List En} {k : ByteArray} {i : Nat} (hf : Fnd l k i true) (hr : rgB l = true) : geV l k = l[i]!.2 ∧ geB l k = true := by
  obtain ⟨h1, h2⟩ := hf.2.2 (rg_of hr)
  unfold geV geB
  rw [hr, if_pos rfl, gtV_at (rg_of hr) h2.symm, ← h1, ← h2]
  exact ⟨rfl, rfl⟩

theorem puL_no {l : List En} {k v : ByteArray} (h : mayB k v = false ∨ rgB l = false) : puL l k v = l := by
  unfold puL
  rcases h with h | h <;> simp [h]
theorem puL_yes {l : List En} {k v : ByteArray} {i : Nat} {f : Bool} (hf : Fnd l k i f) (hm : mayB k v = true) (hr : rgB l = true) (j : Nat) (hj : j = if f = true then i + 1 else i) : l.take i ++ [(k, v)] ++ l.drop j = puL l k v := by
  obtain ⟨h1, h2⟩ := hf.2.2 (rg_of hr)
  unfold puL
  rw [hm, hr, Bool.and_self, if_pos rfl, h1]
  refine ptL_cut (rg_of hr) hm ?_
  rw [hj, h1, h2]

theorem deE_no {l : List En} {k : ByteArray} {i : Nat} {f : Bool} (hf : Fnd l k i f) (h : f = false ∨ rgB l = false) : deE l k = l := by
  unfold deE
  cases hr : rgB l
  · rfl
  · have h2 := (hf.2.2 (rg_of hr)).2
    rcases h with h | h
    · rw [h] at h2
      rw [if_pos rfl, dlL_none h2.symm]
    · rw [hr] at h; cases h
theorem deE_yes {l : List En} {k : ByteArray} {i : Nat} (hf : Fnd l k i true) (hr : rgB l = true) : l.take i ++ [] ++ l.drop (i + 1) = deE l k := by
  obtain ⟨h1, h2⟩ := hf.2.2 (rg_of hr)
  unfold deE
  rw [hr, if_pos rfl, List.append_nil, h1, dlL_cut (rg_of hr) h2.symm]
end

/-! EnSize -/
section
open Go.Shelf Go.RowKit Go.Lib Go.Sort

theorem szE_le {l : List En} {i : Nat} (h : i < l.length) : szL (l.take i) + szE l[i]! ≤ szL l := by
  rw [← szL_snoc h]; exact szL_take_le _ _
end

end Go.Proofs.YtljmkajpjjdnhaaGreatDoor.N

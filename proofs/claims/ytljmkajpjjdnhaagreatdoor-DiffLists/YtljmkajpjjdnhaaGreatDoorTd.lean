/-
  The plain mathematics of package treediff's lists: what is different in two right lists, and a list with deltas done.
-/
import Derived.Test.YtljmkajpjjdnhaaGreatDoorBEn
namespace Go.Proofs.YtljmkajpjjdnhaaGreatDoor.N
set_option linter.unusedVariables false

/-- What is different of a key. -/
structure Dl where
  key : ByteArray
  old : ByteArray
  new : ByteArray
  was : Bool
  is : Bool

def e0 : ByteArray := ⟨#[]⟩
def dA (x : En) : Dl := ⟨x.1, x.2, e0, true, false⟩
def dB (y : En) : Dl := ⟨y.1, e0, y.2, false, true⟩
def dC (x y : En) : Dl := ⟨x.1, x.2, y.2, true, true⟩

/-- One step through two lists: what comes of it, and what is left. -/
def mg1 : List En → List En → List Dl × List En × List En
  | [], [] => ([], [], [])
  | x :: a, [] => ([dA x], a, [])
  | [], y :: b => ([dB y], [], b)
  | x :: a, y :: b => if ltK x.1 y.1 = true then ([dA x], a, y :: b) else if ltK y.1 x.1 = true then ([dB y], x :: a, b) else (if x.2 = y.2 then [] else [dC x y], a, b)

theorem mg1_cc (x y : En) (a b : List En) : mg1 (x :: a) (y :: b) = if ltK x.1 y.1 = true then ([dA x], a, y :: b) else if ltK y.1 x.1 = true then ([dB y], x :: a, b) else (if x.2 = y.2 then [] else [dC x y], a, b) := rfl
theorem mg1_less : ∀ (a b : List En), a ≠ [] ∨ b ≠ [] → (mg1 a b).2.1.length + (mg1 a b).2.2.length < a.length + b.length
  | [], [], h => by simp at h
  | x :: a, [], _ => by simp [mg1]
  | [], y :: b, _ => by simp [mg1]
  | x :: a, y :: b, _ => by
    rw [mg1_cc]
    split
    · simp
    · split
      · simp
      · simp; omega

/-- What is different in two lists. -/
def mgD (a b : List En) : List Dl :=
  if h : a ≠ [] ∨ b ≠ [] then (mg1 a b).1 ++ mgD (mg1 a b).2.1 (mg1 a b).2.2 else []
termination_by a.length + b.length
decreasing_by exact mg1_less a b h

theorem mgD_go {a b : List En} (h : a ≠ [] ∨ b ≠ []) : mgD a b = (mg1 a b).1 ++ mgD (mg1 a b).2.1 (mg1 a b).2.2 := by
  rw [mgD, dif_pos h]
theorem mgD_end : mgD [] [] = [] := by rw [mgD, dif_neg (by simp)]

/-- What a delta of two lists says. -/
structure DOf (a b : List En) (d : Dl) : Prop where
  was : d.was = fdB a d.key
  is : d.is = fdB b d.key
  old : d.old = gtV a d.key
  new : d.new = gtV b d.key
  ne : d.was ≠ d.is ∨ d.old ≠ d.new

theorem DOf.key {a b : List En} {d : Dl} (h : DOf a b d) : (∃ x ∈ a, x.1 = d.key) ∨ ∃ y ∈ b, y.1 = d.key := by
  cases e : fdB a d.key
  · cases f : fdB b d.key
    · rcases h.ne with c | c
      · rw [h.was, h.is, e, f] at c; exact absurd rfl c
      · rw [h.old, h.new, gtV_no e, gtV_no f] at c; exact absurd rfl c
    · exact Or.inr (fdB_iff.1 f)
  · exact Or.inl (fdB_iff.1 e)

theorem fdB_cons (x : En) (l : List En) (k : ByteArray) : fdB (x :: l) k = (decide (x.1 = k) || fdB l k) := rfl
theorem gtV_cons (x : En) (l : List En) (k : ByteArray) : gtV (x :: l) k = if x.1 = k then x.2 else gtV l k := rfl

/-- A first key that is not the delta's says nothing of it. -/
theorem DOf.left {x : En} {a b : List En} {d : Dl} (h : x.1 ≠ d.key) : DOf (x :: a) b d ↔ DOf a b d := by
  have e1 : fdB (x :: a) d.key = fdB a d.key := by rw [fdB_cons, decide_eq_false h, Bool.false_or]
  have e2 : gtV (x :: a) d.key = gtV a d.key := by rw [gtV_cons, if_neg h]
  exact ⟨fun c => ⟨by rw [c.was, e1], c.is, by rw [c.old, e2], c.new, c.ne⟩, fun c => ⟨by rw [c.was, e1], c.is, by rw [c.old, e2], c.new, c.ne⟩⟩
theorem DOf.turn {a b : List En} {d : Dl} (h : DOf a b d) : DOf b a ⟨d.key, d.new, d.old, d.is, d.was⟩ :=
  ⟨h.is, h.was, h.new, h.old, h.ne.imp Ne.symm Ne.symm⟩
theorem DOf.right {y : En} {a b : List En} {d : Dl} (h : y.1 ≠ d.key) : DOf a (y :: b) d ↔ DOf a b d :=
  ⟨fun c => ((DOf.left (d := ⟨d.key, d.new, d.old, d.is, d.was⟩) h).1 c.turn).turn, fun c => ((DOf.left (d := ⟨d.key, d.new, d.old, d.is, d.was⟩) h).2 c.turn).turn⟩
/-- There is one at most of each key. -/
theorem DOf.one {a b : List En} {d e : Dl} (h : DOf a b d) (g : DOf a b e) (hk : d.key = e.key) : d = e := by
  obtain ⟨k, o, n, wa, i⟩ := d
  obtain ⟨k', o', n', wa', i'⟩ := e
  simp only at hk
  subst hk
  have h1 := h.was; have h2 := h.is; have h3 := h.old; have h4 := h.new
  have g1 := g.was; have g2 := g.is; have g3 := g.old; have g4 := g.new
  simp only at h1 h2 h3 h4 g1 g2 g3 g4
  rw [h1, h2, h3, h4, g1, g2, g3, g4]

theorem fdB_low {a : List En} {k : ByteArray} (h : ∀ x ∈ a, ltK k x.1 = true) : fdB a k = false := by
  cases e : fdB a k
  · rfl
  · obtain ⟨x, hx, rfl⟩ := fdB_iff.1 e
    have := h x hx
    rw [ltK_irrefl] at this
    cases this

/-- JUST WHAT IS DIFFERENT. -/
theorem mgD_mem : ∀ (n : Nat) (a b : List En), a.length + b.length = n → Rg a → Rg b → ∀ d, d ∈ mgD a b ↔ DOf a b d := by
  intro n
  induction n using Nat.strongRecOn with
  | ind n ih =>
    intro a b hn ha hb d
    match a, b, ha, hb with
    | [], [], _, _ =>
      rw [mgD_end]
      constructor
      · intro h; cases h
      · intro h; rcases h.key with ⟨x, hx, _⟩ | ⟨x, hx, _⟩ <;> cases hx
    | x :: a, [], ha, hb =>
      rw [mgD_go (by simp)]
      have I := ih _ (by rw [← hn]; simp) a [] rfl ha.tail hb d
      show d ∈ [dA x] ++ mgD a [] ↔ _
      rw [List.mem_append, I, List.mem_singleton]
      have hd : DOf (x :: a) [] (dA x) := ⟨by simp [dA, fdB_cons], rfl, by simp [dA, gtV_cons], rfl, Or.inl (by simp [dA])⟩
      by_cases c : x.1 = d.key
      · constructor
        · rintro (e | e)
          · rw [e]; exact hd
          · rcases e.key with ⟨z, hz, e2⟩ | ⟨z, hz, _⟩
            · have := ha.head z hz; rw [e2, c, ltK_irrefl] at this; cases this
            · cases hz
        · intro h; exact Or.inl (h.one hd c.symm)
      · rw [DOf.left c]
        constructor
        · rintro (e | e)
          · rw [e] at c; exact absurd rfl c
          · exact e
        · exact Or.inr
    | [], y :: b, ha, hb =>
      rw [mgD_go (by simp)]
      have I := ih _ (by rw [← hn]; simp) [] b rfl ha hb.tail d
      show d ∈ [dB y] ++ mgD [] b ↔ _
      rw [List.mem_append, I, List.mem_singleton]
      have hd : DOf [] (y :: b) (dB y) := ⟨rfl, by simp [dB, fdB_cons], rfl, by simp [dB, gtV_cons], Or.inl (by simp [dB])⟩
      by_cases c : y.1 = d.key
      · constructor
        · rintro (e | e)
          · rw [e]; exact hd
          · rcases e.key with ⟨z, hz, _⟩ | ⟨z, hz, e2⟩
            · cases hz
            · have := hb.head z hz; rw [e2, c, ltK_irrefl] at this; cases this
        · intro h; exact Or.inl (h.one hd c.symm)
      · rw [DOf.right c]
        constructor
        · rintro (e | e)
          · rw [e] at c; exact absurd rfl c
          · exact e
        · exact Or.inr
    | x :: a, y :: b, ha, hb =>
      rw [mgD_go (by simp)]
      by_cases l1 : ltK x.1 y.1 = true
      · have e : mg1 (x :: a) (y :: b) = ([dA x], a, y :: b) := by rw [mg1_cc, if_pos l1]
        rw [e]
        have I := ih _ (by rw [← hn]; simp) a (y :: b) rfl ha.tail hb d
        rw [List.mem_append, I, List.mem_singleton]
        have lowb : ∀ z ∈ y :: b, ltK x.1 z.1 = true := fun z hz => by
          rcases List.mem_cons.1 hz with e | e
          · rw [e]; exact l1
          · exact ltK_trans l1 (hb.head z e)
        have f0 : fdB (y :: b) x.1 = false := fdB_low lowb
        have hd : DOf (x :: a) (y :: b) (dA x) := ⟨by simp [dA, fdB_cons], f0.symm, by simp [dA, gtV_cons], (gtV_no f0).symm, Or.inl (by simp [dA])⟩
        by_cases c : x.1 = d.key
        · constructor
          · rintro (e | e)
            · rw [e]; exact hd
            · rcases e.key with ⟨z, hz, e2⟩ | ⟨z, hz, e2⟩
              · have := ha.head z hz; rw [e2, c, ltK_irrefl] at this; cases this
              · have := lowb z hz; rw [e2, c, ltK_irrefl] at this; cases this
          · intro h; exact Or.inl (h.one hd c.symm)
        · rw [DOf.left c]
          constructor
          · rintro (e | e)
            · rw [e] at c; exact absurd rfl c
            · exact e
          · exact Or.inr
      · by_cases l2 : ltK y.1 x.1 = true
        · have e : mg1 (x :: a) (y :: b) = ([dB y], x :: a, b) := by rw [mg1_cc, if_neg l1, if_pos l2]
          rw [e]
          have I := ih _ (by rw [← hn]; simp) (x :: a) b rfl ha hb.tail d
          rw [List.mem_append, I, List.mem_singleton]
          have lowa : ∀ z ∈ x :: a, ltK y.1 z.1 = true := fun z hz => by
            rcases List.mem_cons.1 hz with e | e
            · rw [e]; exact l2
            · exact ltK_trans l2 (ha.head z e)
          have f0 : fdB (x :: a) y.1 = false := fdB_low lowa
          have hd : DOf (x :: a) (y :: b) (dB y) := ⟨f0.symm, by simp [dB, fdB_cons], (gtV_no f0).symm, by simp [dB, gtV_cons], Or.inl (by simp [dB])⟩
          by_cases c : y.1 = d.key
          · constructor
            · rintro (e | e)
              · rw [e]; exact hd
              · rcases e.key with ⟨z, hz, e2⟩ | ⟨z, hz, e2⟩
                · have := lowa z hz; rw [e2, c, ltK_irrefl] at this; cases this
                · have := hb.head z hz; rw [e2, c, ltK_irrefl] at this; cases this
            · intro h; exact Or.inl (h.one hd c.symm)
          · rw [DOf.right c]
            constructor
            · rintro (e | e)
              · rw [e] at c; exact absurd rfl c
              · exact e
            · exact Or.inr
        · have k : x.1 = y.1 := ltK_tri (by simpa using l1) (by simpa using l2)
          have e : mg1 (x :: a) (y :: b) = (if x.2 = y.2 then [] else [dC x y], a, b) := by rw [mg1_cc, if_neg l1, if_neg l2]
          rw [e]
          have I := ih _ (by rw [← hn]; simp; omega) a b rfl ha.tail hb.tail d
          rw [List.mem_append, I]
          by_cases c : x.1 = d.key
          · have no : ¬ DOf a b d := fun e => by
              rcases e.key with ⟨z, hz, e2⟩ | ⟨z, hz, e2⟩
              · have := ha.head z hz; rw [e2, c, ltK_irrefl] at this; cases this
              · have := hb.head z hz; rw [e2, ← k, c, ltK_irrefl] at this; cases this
            by_cases v : x.2 = y.2
            · rw [if_pos v]
              constructor
              · rintro (h | h)
                · cases h
                · exact absurd h no
              · intro h
                have w1 : d.was = true := by rw [h.was, fdB_cons, c]; simp
                have w2 : d.is = true := by rw [h.is, fdB_cons, ← k, c]; simp
                have w3 : d.old = x.2 := by rw [h.old, gtV_cons, if_pos c]
                have w4 : d.new = y.2 := by rw [h.new, gtV_cons, ← k, if_pos c]
                rcases h.ne with g | g
                · rw [w1, w2] at g; exact absurd rfl g
                · rw [w3, w4] at g; exact absurd v g
            · rw [if_neg v, List.mem_singleton]
              have hd : DOf (x :: a) (y :: b) (dC x y) := ⟨by simp [dC, fdB_cons], by simp [dC, fdB_cons, k], by simp [dC, gtV_cons], by simp [dC, gtV_cons, k], Or.inr v⟩
              constructor
              · rintro (h | h)
                · rw [h]; exact hd
                · exact absurd h no
              · intro h; exact Or.inl (h.one hd c.symm)
          · rw [DOf.left c, DOf.right (by rw [← k]; exact c)]
            constructor
            · rintro (h | h)
              · by_cases v : x.2 = y.2
                · rw [if_pos v] at h; cases h
                · rw [if_neg v, List.mem_singleton] at h; rw [h] at c; exact absurd rfl c
              · exact h
            · exact Or.inr

theorem mgD_of {a b : List En} (ha : Rg a) (hb : Rg b) {d : Dl} : d ∈ mgD a b ↔ DOf a b d := mgD_mem _ a b rfl ha hb d

/-- Deltas whose keys rise. -/
def UpD (l : List Dl) : Prop := l.Pairwise (fun x y => ltK x.key y.key = true)

theorem UpD.ext : ∀ {l m : List Dl}, UpD l → UpD m → (∀ x, x ∈ l ↔ x ∈ m) → l = m
  | [], [], _, _, _ => rfl
  | [], y :: m, _, _, h => by have := (h y).2 (List.mem_cons_self ..); cases this
  | x :: l, [], _, _, h => by have := (h x).1 (List.mem_cons_self ..); cases this
  | x :: l, y :: m, hl, hm, h => by
    have hl' := List.pairwise_cons.1 hl
    have hm' := List.pairwise_cons.1 hm
    have hxy : x = y := by
      rcases List.mem_cons.1 ((h x).1 (List.mem_cons_self ..)) with e | e
      · exact e
      · rcases List.mem_cons.1 ((h y).2 (List.mem_cons_self ..)) with f | f
        · exact f.symm
        · have a := hm'.1 x e
          have b := hl'.1 y f
          rw [ltK_asymm a] at b
          cases b
    subst hxy
    rw [UpD.ext hl'.2 hm'.2 fun z => ⟨fun hz => ?_, fun hz => ?_⟩]
    · rcases List.mem_cons.1 ((h z).1 (List.mem_cons_of_mem _ hz)) with e | e
      · exact absurd (hl'.1 z hz) (by rw [e, ltK_irrefl]; simp)
      · exact e
    · rcases List.mem_cons.1 ((h z).2 (List.mem_cons_of_mem _ hz)) with e | e
      · exact absurd (hm'.1 z hz) (by rw [e, ltK_irrefl]; simp)
      · exact e

/-- All keys of both lists are above one. -/
theorem mgD_low {a b : List En} {k : ByteArray} (ha : Rg a) (hb : Rg b) (h1 : ∀ x ∈ a, ltK k x.1 = true) (h2 : ∀ x ∈ b, ltK k x.1 = true) : ∀ d ∈ mgD a b, ltK k d.key = true := fun d hd => by
  rcases ((mgD_of ha hb).1 hd).key with ⟨z, hz, e⟩ | ⟨z, hz, e⟩
  · rw [← e]; exact h1 z hz
  · rw [← e]; exact h2 z hz

theorem mgD_up : ∀ (n : Nat) (a b : List En), a.length + b.length = n → Rg a → Rg b → UpD (mgD a b) := by
  intro n
  induction n using Nat.strongRecOn with
  | ind n ih =>
    intro a b hn ha hb
    match a, b, ha, hb with
    | [], [], _, _ => rw [mgD_end]; exact List.Pairwise.nil
    | x :: a, [], ha, hb =>
      rw [mgD_go (by simp)]
      exact List.pairwise_cons.2 ⟨mgD_low ha.tail hb ha.head (fun _ h => by cases h), ih _ (by rw [← hn]; simp) a [] rfl ha.tail hb⟩
    | [], y :: b, ha, hb =>
      rw [mgD_go (by simp)]
      exact List.pairwise_cons.2 ⟨mgD_low ha hb.tail (fun _ h => by cases h) hb.head, ih _ (by rw [← hn]; simp) [] b rfl ha hb.tail⟩
    | x :: a, y :: b, ha, hb =>
      rw [mgD_go (by simp)]
      by_cases l1 : ltK x.1 y.1 = true
      · have e : mg1 (x :: a) (y :: b) = ([dA x], a, y :: b) := by rw [mg1_cc, if_pos l1]
        rw [e]
        exact List.pairwise_cons.2 ⟨mgD_low ha.tail hb ha.head (fun z hz => by
          rcases List.mem_cons.1 hz with e | e
          · rw [e]; exact l1
          · exact ltK_trans l1 (hb.head z e)), ih _ (by rw [← hn]; simp) a (y :: b) rfl ha.tail hb⟩
      · by_cases l2 : ltK y.1 x.1 = true
        · have e : mg1 (x :: a) (y :: b) = ([dB y], x :: a, b) := by rw [mg1_cc, if_neg l1, if_pos l2]
          rw [e]
          exact List.pairwise_cons.2 ⟨mgD_low ha hb.tail (fun z hz => by
            rcases List.mem_cons.1 hz with e | e
            · rw [e]; exact l2
            · exact ltK_trans l2 (ha.head z e)) hb.head, ih _ (by rw [← hn]; simp) (x :: a) b rfl ha hb.tail⟩
        · have k : x.1 = y.1 := ltK_tri (by simpa using l1) (by simpa using l2)
          have e : mg1 (x :: a) (y :: b) = (if x.2 = y.2 then [] else [dC x y], a, b) := by rw [mg1_cc, if_neg l1, if_neg l2]
          rw [e]
          have I := ih _ (by rw [← hn]; simp; omega) a b rfl ha.tail hb.tail
          by_cases v : x.2 = y.2
          · rw [if_pos v]; exact I
          · rw [if_neg v]; exact List.pairwise_cons.2 ⟨mgD_low ha.tail hb.tail ha.head (by show ∀ z ∈ b, ltK x.1 z.1 = true; rw [k]; exact hb.head), I⟩
theorem mgD_rise {a b : List En} (ha : Rg a) (hb : Rg b) : UpD (mgD a b) := mgD_up _ a b rfl ha hb

/-- The keys of both lists, as the document puts them together. -/
def ksL (ks a : List En) : List En := a.foldl (fun ks x => ptL ks x.1 e0) ks
/-- What the document says of a key. -/
def dlK (a b : List En) (k : ByteArray) : List Dl := if (fdB a k != fdB b k || decide (gtV a k ≠ gtV b k)) = true then [⟨k, gtV a k, gtV b k, fdB a k, fdB b k⟩] else []
def dfK (a b ks : List En) : List Dl := ks.flatMap fun x => dlK a b x.1
/-- The document's Lists. -/
def dfL (a b : List En) : List Dl := if (rgB a && rgB b) = true then dfK a b (ksL (ksL [] a) b) else []

/-- Rising, without a look at what may be. -/
theorem insL_up {x : En} : ∀ {l : List En}, Up l → (∀ y ∈ l, y.1 ≠ x.1) → Up (insL x l)
  | [], _, _ => List.pairwise_singleton _ _
  | z :: l, h, hne => by
    have h' := List.pairwise_cons.1 h
    unfold insL
    by_cases c : ltK x.1 z.1 = true
    · rw [if_pos c]
      refine List.pairwise_cons.2 ⟨fun y hy => ?_, h⟩
      rcases List.mem_cons.1 hy with e | e
      · rw [e]; exact c
      · exact ltK_trans c (h'.1 y e)
    · rw [if_neg c]
      refine List.pairwise_cons.2 ⟨fun y hy => ?_, insL_up h'.2 fun y hy => hne y (List.mem_cons_of_mem _ hy)⟩
      rcases insL_mem.1 hy with e | e
      · rw [e]
        exact ltK_of_not (by simpa using c) fun e2 => hne z (List.mem_cons_self ..) e2.symm
      · exact h'.1 y e
theorem ptL_up {l : List En} {k v : ByteArray} (h : Up l) : Up (ptL l k v) := insL_up (h.sublist List.filter_sublist) fun _ hy => (dlL_mem.1 hy).2
theorem ksL_up : ∀ {a ks : List En}, Up ks → Up (ksL ks a)
  | [], _, h => h
  | _ :: a, _, h => ksL_up (a := a) (ptL_up h)
theorem ksL_mem : ∀ {a ks : List En} {k : ByteArray}, (∃ x ∈ ksL ks a, x.1 = k) ↔ (∃ x ∈ ks, x.1 = k) ∨ ∃ x ∈ a, x.1 = k
  | [], ks, k => by simp [ksL]
  | y :: a, ks, k => by
    show (∃ x ∈ ksL (ptL ks y.1 e0) a, x.1 = k) ↔ _
    rw [ksL_mem (a := a)]
    constructor
    · rintro (⟨x, hx, e⟩ | ⟨x, hx, e⟩)
      · rcases ptL_mem.1 hx with f | f
        · right; exact ⟨y, List.mem_cons_self .., by rw [← e, f]⟩
        · left; exact ⟨x, f.1, e⟩
      · right; exact ⟨x, List.mem_cons_of_mem _ hx, e⟩
    · rintro (⟨x, hx, e⟩ | ⟨x, hx, e⟩)
      · by_cases c : x.1 = y.1
        · left; exact ⟨(y.1, e0), ptL_mem.2 (Or.inl rfl), by rw [← e, c]⟩
        · left; exact ⟨x, ptL_mem.2 (Or.inr ⟨hx, c⟩), e⟩
      · rcases List.mem_cons.1 hx with f | f
        · left; exact ⟨(y.1, e0), ptL_mem.2 (Or.inl rfl), by rw [← e, f]⟩
        · right; exact ⟨x, f, e⟩

theorem dlK_mem {a b : List En} {k : ByteArray} {d : Dl} : d ∈ dlK a b k ↔ d.key = k ∧ DOf a b d := by
  unfold dlK
  by_cases c : (fdB a k != fdB b k || decide (gtV a k ≠ gtV b k)) = true
  · rw [if_pos c, List.mem_singleton]
    have hd : DOf a b ⟨k, gtV a k, gtV b k, fdB a k, fdB b k⟩ := ⟨rfl, rfl, rfl, rfl, by
      rw [Bool.or_eq_true, bne_iff_ne, decide_eq_true_eq] at c; exact c⟩
    exact ⟨fun e => by rw [e]; exact ⟨rfl, hd⟩, fun ⟨e, h⟩ => h.one hd e⟩
  · rw [if_neg c]
    constructor
    · intro h; cases h
    · rintro ⟨rfl, h⟩
      refine absurd ?_ c
      rw [Bool.or_eq_true, bne_iff_ne, decide_eq_true_eq, ← h.was, ← h.is, ← h.old, ← h.new]
      exact h.ne

theorem dfK_up {a b : List En} : ∀ {ks : List En}, Up ks → UpD (dfK a b ks)
  | [], _ => List.Pairwise.nil
  | k :: ks, h => by
    have h' := List.pairwise_cons.1 h
    show UpD (dlK a b k.1 ++ dfK a b ks)
    refine List.pairwise_append.2 ⟨?_, dfK_up h'.2, fun x hx y hy => ?_⟩
    · unfold dlK
      split
      · exact List.pairwise_singleton _ _
      · exact List.Pairwise.nil
    · rw [(dlK_mem.1 hx).1]
      obtain ⟨z, hz, hy2⟩ := List.mem_flatMap.1 hy
      rw [(dlK_mem.1 hy2).1]
      exact h'.1 z hz

/-- THE PROGRAM'S LISTS ARE THE DOCUMENT'S. -/
theorem dfL_is {a b : List En} (ha : Rg a) (hb : Rg b) : dfL a b = mgD a b := by
  unfold dfL
  rw [rgB_of ha, rgB_of hb, if_pos (by rfl)]
  have hu : Up (ksL (ksL [] a) b) := ksL_up (ksL_up List.Pairwise.nil)
  refine UpD.ext (dfK_up hu) (mgD_rise ha hb) fun d => ?_
  rw [mgD_of ha hb]
  unfold dfK
  rw [List.mem_flatMap]
  constructor
  · rintro ⟨x, _, hx⟩; exact (dlK_mem.1 hx).2
  · intro h
    have hk : ∃ x ∈ ksL (ksL [] a) b, x.1 = d.key := by
      rw [ksL_mem, ksL_mem]
      rcases h.key with c | c
      · exact Or.inl (Or.inr c)
      · exact Or.inr c
    obtain ⟨x, hx, e⟩ := hk
    exact ⟨x, hx, dlK_mem.2 ⟨e.symm, h⟩⟩

/-- The deltas the other way round. -/
def tnD (d : Dl) : Dl := ⟨d.key, d.new, d.old, d.is, d.was⟩
theorem mgD_turn {a b : List En} (ha : Rg a) (hb : Rg b) : mgD b a = (mgD a b).map tnD := by
  refine UpD.ext (mgD_rise hb ha) (List.pairwise_map.2 (mgD_rise ha hb)) fun d => ?_
  rw [mgD_of hb ha, List.mem_map]
  constructor
  · intro h; exact ⟨tnD d, (mgD_of ha hb).2 h.turn, rfl⟩
  · rintro ⟨e, he, rfl⟩; exact ((mgD_of ha hb).1 he).turn
theorem mgD_same {a : List En} (ha : Rg a) : mgD a a = [] := by
  refine List.eq_nil_iff_forall_not_mem.2 fun d hd => ?_
  have h := (mgD_of ha ha).1 hd
  rcases h.ne with c | c
  · rw [h.was, h.is] at c; exact c rfl
  · rw [h.old, h.new] at c; exact c rfl

/-- A delta that may be done. -/
def okD (d : Dl) : Bool := !d.is || mayB d.key d.new
/-- The last delta of a key, of those that may be done. -/
def lsD : List Dl → ByteArray → Option Dl
  | [], _ => none
  | d :: ds, k => match lsD ds k with
    | some e => some e
    | none => if (okD d && decide (d.key = k)) = true then some d else none
/-- One delta done. -/
def ap1 (l : List En) (d : Dl) : List En := if d.is = true then (if mayB d.key d.new = true then ptL l d.key d.new else l) else dlL l d.key
/-- The document's Apply, of a right list. -/
def apL (l : List En) (ds : List Dl) : List En := ds.foldl ap1 l

theorem ap1_rg {l : List En} (h : Rg l) (d : Dl) : Rg (ap1 l d) := by
  unfold ap1
  split
  · split
    · next c => exact ptL_rg h c
    · exact h
  · exact dlL_rg h _
theorem apL_rg : ∀ {ds : List Dl} {l : List En}, Rg l → Rg (apL l ds)
  | [], _, h => h
  | d :: ds, _, h => apL_rg (ds := ds) (ap1_rg h d)
theorem apL_snoc (l : List En) (ds : List Dl) (d : Dl) : apL l (ds ++ [d]) = ap1 (apL l ds) d := by simp [apL]

theorem ap1_mem {l : List En} {d : Dl} {x : En} : x ∈ ap1 l d ↔ if (okD d && decide (d.key = x.1)) = true then (d.is = true ∧ x.2 = d.new) else x ∈ l := by
  unfold ap1 okD
  cases hi : d.is
  · simp only [Bool.false_eq_true, if_false, Bool.not_false, Bool.true_or, Bool.true_and, decide_eq_true_eq]
    rw [dlL_mem]
    by_cases c : d.key = x.1
    · rw [if_pos c]; simp [c]
    · rw [if_neg c]; exact ⟨fun h => h.1, fun h => ⟨h, fun e => c e.symm⟩⟩
  · cases hm : mayB d.key d.new
    · simp
    · simp only [Bool.not_true, Bool.false_or, if_true, Bool.true_and, decide_eq_true_eq, true_and]
      rw [ptL_mem]
      by_cases c : d.key = x.1
      · rw [if_pos c]
        constructor
        · rintro (e | e)
          · rw [e]
          · exact absurd c.symm e.2
        · intro e; left; exact Prod.ext c.symm e
      · rw [if_neg c]
        constructor
        · rintro (e | e)
          · rw [e] at c; exact absurd rfl c
          · exact e.1
        · intro h; exact Or.inr ⟨h, fun e => c e.symm⟩

/-- What is in a list with deltas done. -/
def InD (l : List En) (f : ByteArray → Option Dl) (x : En) : Prop := match f x.1 with
  | some d => d.is = true ∧ x.2 = d.new
  | none => x ∈ l

theorem apL_mem : ∀ {ds : List Dl} {l : List En} {x : En}, x ∈ apL l ds ↔ InD l (lsD ds) x
  | [], l, x => Iff.rfl
  | d :: ds, l, x => by
    show x ∈ apL (ap1 l d) ds ↔ _
    rw [apL_mem (ds := ds)]
    unfold InD
    show _ ↔ match (match lsD ds x.1 with | some e => some e | none => if (okD d && decide (d.key = x.1)) = true then some d else none) with | some d => d.is = true ∧ x.2 = d.new | none => x ∈ l
    cases lsD ds x.1 with
    | some e => exact Iff.rfl
    | none =>
      show x ∈ ap1 l d ↔ _
      rw [ap1_mem]
      by_cases c : (okD d && decide (d.key = x.1)) = true
      · rw [if_pos c, if_pos c]
      · rw [if_neg c, if_neg c]

theorem lsD_some : ∀ {ds : List Dl} {k : ByteArray} {d : Dl}, lsD ds k = some d → d ∈ ds ∧ okD d = true ∧ d.key = k
  | [], _, _, h => by cases h
  | e :: ds, k, d, h => by
    unfold lsD at h
    cases c : lsD ds k with
    | some z =>
      rw [c] at h
      cases h
      obtain ⟨h1, h2, h3⟩ := lsD_some c
      exact ⟨List.mem_cons_of_mem _ h1, h2, h3⟩
    | none =>
      rw [c] at h
      simp only at h
      split at h
      · next g =>
        cases h
        rw [Bool.and_eq_true, decide_eq_true_eq] at g
        exact ⟨List.mem_cons_self .., g.1, g.2⟩
      · cases h
theorem lsD_snoc : ∀ (ds : List Dl) (d : Dl) (k : ByteArray), lsD (ds ++ [d]) k = if (okD d && decide (d.key = k)) = true then some d else lsD ds k
  | [], d, k => by simp [lsD]
  | e :: ds, d, k => by
    show (match lsD (ds ++ [d]) k with | some e => some e | none => if (okD e && decide (e.key = k)) = true then some e else none) = _
    rw [lsD_snoc ds d k]
    by_cases c : (okD d && decide (d.key = k)) = true
    · rw [if_pos c, if_pos c]
    · rw [if_neg c, if_neg c]; rfl
/-- Of rising deltas each is the last one of its key. -/
theorem lsD_up {ds : List Dl} (h : UpD ds) {d : Dl} (hd : d ∈ ds) (ho : okD d = true) : lsD ds d.key = some d := by
  induction ds with
  | nil => cases hd
  | cons e ds ih =>
    have h' := List.pairwise_cons.1 h
    unfold lsD
    rcases List.mem_cons.1 hd with c | c
    · subst c
      cases g : lsD ds d.key with
      | some z =>
        obtain ⟨h1, h2, h3⟩ := lsD_some g
        have := h'.1 z h1
        rw [h3, ltK_irrefl] at this
        cases this
      | none => simp [ho]
    · rw [ih h'.2 c]

/-- WHAT IS DIFFERENT LEADS THERE. -/
theorem apL_there {a b : List En} (ha : Rg a) (hb : Rg b) : apL a (mgD a b) = b := by
  refine Rg.ext (apL_rg ha) hb fun x => ?_
  have ok : ∀ d ∈ mgD a b, okD d = true := fun d hd => by
    have h := (mgD_of ha hb).1 hd
    unfold okD
    cases hi : d.is
    · rfl
    · have := h.is
      rw [hi] at this
      obtain ⟨y, hy, e⟩ := fdB_iff.1 this.symm
      have hn := h.new
      rw [← e, gtV_of hb hy] at hn
      rw [hn, ← e]
      exact hb.may y hy
  rw [apL_mem]
  unfold InD
  cases g : lsD (mgD a b) x.1 with
  | some d =>
    obtain ⟨h1, h2, h3⟩ := lsD_some g
    have h := (mgD_of ha hb).1 h1
    simp only
    rw [h.is, h.new, h3]
    constructor
    · rintro ⟨c, e⟩
      obtain ⟨y, hy, f⟩ := fdB_iff.1 c
      rw [← f, gtV_of hb hy] at e
      have : x = y := Prod.ext f.symm e
      rw [this]; exact hy
    · intro hx; exact ⟨fdB_iff.2 ⟨x, hx, rfl⟩, (gtV_of hb hx).symm⟩
  | none =>
    have same : fdB a x.1 = fdB b x.1 ∧ gtV a x.1 = gtV b x.1 := by
      refine Classical.byContradiction fun c => ?_
      have hd : DOf a b ⟨x.1, gtV a x.1, gtV b x.1, fdB a x.1, fdB b x.1⟩ := ⟨rfl, rfl, rfl, rfl, by
        by_cases e : fdB a x.1 = fdB b x.1
        · right; exact fun f => c ⟨e, f⟩
        · left; exact e⟩
      have hm := (mgD_of ha hb).2 hd
      have := lsD_up (mgD_rise ha hb) hm (ok _ hm)
      rw [g] at this
      cases this
    show x ∈ a ↔ x ∈ b
    constructor
    · intro hx
      have h1 : fdB b x.1 = true := by rw [← same.1]; exact fdB_iff.2 ⟨x, hx, rfl⟩
      obtain ⟨y, hy, f⟩ := fdB_iff.1 h1
      have e1 := gtV_of ha hx
      have e2 := gtV_of hb hy
      rw [f, ← same.2, e1] at e2
      have : x = y := Prod.ext f.symm e2
      rw [this]; exact hy
    · intro hx
      have h1 : fdB a x.1 = true := by rw [same.1]; exact fdB_iff.2 ⟨x, hx, rfl⟩
      obtain ⟨y, hy, f⟩ := fdB_iff.1 h1
      have e1 := gtV_of hb hx
      have e2 := gtV_of ha hy
      rw [f, same.2, e1] at e2
      have : x = y := Prod.ext f.symm e2
      rw [this]; exact hy

end Go.Proofs.YtljmkajpjjdnhaaGreatDoor.N

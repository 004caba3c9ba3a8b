/-
  The plain mathematics of package node: nodes, which are right, how many bytes they take, their bytes, and the node of some bytes.
-/
import Derived.Test.YtmamnlphhiaeoaaEn2
import Derived.Test.YtmamnlphhiaeoaaCdNums
namespace Go.Proofs.Ytmamnlphhiaeoaa

/-- A node. -/
structure Nd where
  leaf : Bool
  es : List En
  ks : List Int
  ss : List ByteArray
/-- The node of noughts. -/
def nd0 : Nd := ⟨false, [], [], []⟩

/-- A page that may be a kid. -/
def okK (k : Int) : Bool := decide (2 ≤ k ∧ k ≤ 4294967295)
theorem okK_iff {k : Int} : okK k = true ↔ 2 ≤ k ∧ k ≤ 4294967295 := by simp [okK]
/-- A key as an entry without a value. -/
def kE (s : ByteArray) : En := (s, ⟨#[]⟩)
/-- Keys that rise, and all may be. -/
def kyB (ss : List ByteArray) : Bool := rgB (ss.map kE)

theorem bangS {α β : Type} [Inhabited α] [Inhabited β] {f : α → β} {l : List α} {i : Nat} (h : i < l.length) : (l.map f)[i]! = f l[i]! := by
  rw [getElem!_pos (l.map f) i (by simpa using h), getElem!_pos l i h]; simp

def okS (ss : List ByteArray) (i : Nat) : Bool := mayB ss[i]! ⟨#[]⟩ && (i == 0 || ltK ss[i - 1]! ss[i]!)
theorem okS_okE {ss : List ByteArray} {i : Nat} (h : i < ss.length) : okE (ss.map kE) i = okS ss i := by
  unfold okE okS
  rw [bangS h, bangS (show i - 1 < ss.length by omega)]
  rfl
theorem kyB_yes {ss : List ByteArray} (h : ∀ j, j < ss.length → okS ss j = true) : kyB ss = true :=
  rgB_yes fun j hj => by
    have hj' : j < ss.length := by simpa using hj
    rw [okS_okE hj']; exact h j hj'
theorem kyB_no {ss : List ByteArray} (j : Nat) (hj : j < ss.length) (h : okS ss j = false) : kyB ss = false :=
  rgB_no j (by simpa using hj) (by rw [okS_okE hj]; exact h)
theorem okS_of {ss : List ByteArray} {i : Nat} {b c : Bool} (h1 : mayB ss[i]! ⟨#[]⟩ = b) (h2 : (i == 0 || ltK ss[i - 1]! ss[i]!) = c) : okS ss i = (b && c) := by
  unfold okS; rw [h1, h2]

theorem kyB_sub {l m : List ByteArray} (h : kyB l = true) (s : m.Sublist l) : kyB m = true := rgB_of ((rg_of h).sub (s.map kE))
theorem kyB_at {ss : List ByteArray} (h : kyB ss = true) {i j : Nat} (hij : i < j) (hj : j < ss.length) : ltK ss[i]! ss[j]! = true := by
  have := (rg_of h).up.at hij (by simpa using hj)
  rwa [bangS hj, bangS (show i < ss.length by omega)] at this
theorem kyB_may {ss : List ByteArray} (h : kyB ss = true) {s : ByteArray} (hs : s ∈ ss) : 1 ≤ s.size ∧ s.size ≤ 16 := by
  have := mayB_iff.1 ((rg_of h).may (kE s) (List.mem_map_of_mem hs))
  exact ⟨this.1, this.2.1⟩

/-- All kids may be. -/
def ksB (ks : List Int) : Bool := ks.all okK
theorem ksB_yes {ks : List Int} (h : ∀ k ∈ ks, okK k = true) : ksB ks = true := List.all_eq_true.2 h
theorem ksB_no {ks : List Int} {k : Int} (h : k ∈ ks) (hk : okK k = false) : ksB ks = false := by
  cases e : ksB ks
  · rfl
  · rw [List.all_eq_true.1 e k h] at hk; cases hk
theorem ksB_mem {ks : List Int} (h : ksB ks = true) {k : Int} (hk : k ∈ ks) : okK k = true := List.all_eq_true.1 h k hk

/-- A right node. -/
def rtN (n : Nd) : Bool :=
  if n.leaf = true then decide (n.ks.length = 0) && (decide (n.ss.length = 0) && rgB n.es)
  else decide (n.es.length = 0) && (decide (0 < n.ks.length) && (decide (n.ss.length + 1 = n.ks.length) && (ksB n.ks && kyB n.ss)))

theorem rtN_leaf {n : Nd} (h : n.leaf = true) : rtN n = true ↔ n.ks = [] ∧ n.ss = [] ∧ Rg n.es := by
  unfold rtN
  rw [if_pos h]
  simp only [Bool.and_eq_true, decide_eq_true_eq, List.length_eq_zero_iff, rgB_iff]
theorem rtN_inner {n : Nd} (h : n.leaf = false) : rtN n = true ↔ n.es = [] ∧ 0 < n.ks.length ∧ n.ss.length + 1 = n.ks.length ∧ ksB n.ks = true ∧ kyB n.ss = true := by
  unfold rtN
  rw [if_neg (by rw [h]; simp)]
  simp only [Bool.and_eq_true, decide_eq_true_eq, List.length_eq_zero_iff]

/-- How many bytes keys take, each with its kid. -/
def szK : List ByteArray → Nat
  | [] => 0
  | s :: l => 5 + s.size + szK l
theorem szK_app (l m : List ByteArray) : szK (l ++ m) = szK l + szK m := by
  induction l with
  | nil => simp [szK]
  | cons x l ih => simp [szK, ih]; omega
theorem szK_snoc {l : List ByteArray} {i : Nat} (h : i < l.length) : szK (l.take (i + 1)) = szK (l.take i) + (5 + l[i]!.size) := by
  rw [List.take_add_one, List.getElem?_eq_getElem h, szK_app, getElem!_pos l i h]
  simp [szK]
theorem szK_take_le (l : List ByteArray) (i : Nat) : szK (l.take i) ≤ szK l := by
  have := szK_app (l.take i) (l.drop i)
  rw [List.take_append_drop] at this
  omega
theorem szK_bound {l : List ByteArray} {b : Nat} (h : ∀ x ∈ l, x.size ≤ b) : szK l ≤ l.length * (5 + b) := by
  induction l with
  | nil => simp [szK]
  | cons x l ih =>
    have h1 := h x (List.mem_cons_self ..)
    have h2 := ih fun y hy => h y (List.mem_cons_of_mem _ hy)
    simp only [szK, List.length_cons, Nat.add_mul, Nat.one_mul]
    omega
/-- How many bytes a node's body has. -/
def szN (n : Nd) : Nat := if n.leaf = true then szL n.es else 4 + szK n.ss
/-- Whether it fits. -/
def fiN (n : Nd) : Bool := rtN n && decide (szN n ≤ 240)

/-- A key and the kid behind it. -/
abbrev Pk := ByteArray × Int
/-- A kid's bytes. -/
def b4 (k : Int) : List UInt8 := beBytes 4 k.toNat
theorem b4_length (k : Int) : (b4 k).length = 4 := beBytes_length 4 _
/-- The bytes of keys, each with its kid. -/
def bdP : List Pk → List UInt8
  | [] => []
  | p :: l => txL p.1 ++ b4 p.2 ++ bdP l
theorem bdP_app (l m : List Pk) : bdP (l ++ m) = bdP l ++ bdP m := by
  induction l with
  | nil => rfl
  | cons x l ih => simp [bdP, ih]
theorem bdP_length (l : List Pk) : (bdP l).length = szK (l.map (·.1)) := by
  induction l with
  | nil => rfl
  | cons x l ih =>
    simp only [bdP, szK, List.length_append, List.map_cons, ih, txL_length, b4_length]
    omega
/-- An inner node, of its first kid and the keys, each with its kid. -/
def inN (k : Int) (ps : List Pk) : Nd := ⟨false, [], k :: ps.map (·.2), ps.map (·.1)⟩
theorem zip_parts : ∀ {ss : List ByteArray} {ks : List Int}, ss.length = ks.length → (ss.zip ks).map (·.1) = ss ∧ (ss.zip ks).map (·.2) = ks
  | [], [], _ => ⟨rfl, rfl⟩
  | s :: ss, k :: ks, h => by
    have ih := zip_parts (ss := ss) (ks := ks) (by simpa using h)
    simp [ih.1, ih.2]
/-- A right inner node is one of these. -/
theorem rtN_pairs {n : Nd} (h : rtN n = true) (hl : n.leaf = false) : ∃ k ps, n = inN k ps ∧ okK k = true ∧ (∀ p ∈ ps, okK p.2 = true) ∧ kyB (ps.map (·.1)) = true := by
  obtain ⟨h1, h2, h3, h4, h5⟩ := (rtN_inner hl).1 h
  obtain ⟨lf, es, ks, ss⟩ := n
  simp only at hl h1 h2 h3 h4 h5
  subst hl h1
  cases ks with
  | nil => simp at h2
  | cons k ks =>
    obtain ⟨z1, z2⟩ := zip_parts (ss := ss) (ks := ks) (by simpa using h3)
    refine ⟨k, ss.zip ks, ?_, ksB_mem h4 (List.mem_cons_self ..), fun p hp => ?_, by rw [z1]; exact h5⟩
    · unfold inN; rw [z1, z2]
    · refine ksB_mem h4 (List.mem_cons_of_mem _ ?_)
      have := List.mem_map_of_mem (f := (·.2)) hp
      rw [z2] at this
      exact this
theorem inN_right {k : Int} {ps : List Pk} : rtN (inN k ps) = true ↔ okK k = true ∧ (∀ p ∈ ps, okK p.2 = true) ∧ kyB (ps.map (·.1)) = true := by
  rw [rtN_inner rfl]
  constructor
  · rintro ⟨_, _, _, h4, h5⟩
    exact ⟨ksB_mem h4 (List.mem_cons_self ..), fun p hp => ksB_mem h4 (List.mem_cons_of_mem _ (List.mem_map_of_mem (f := (·.2)) hp)), h5⟩
  · rintro ⟨a, b, c⟩
    refine ⟨rfl, by simp [inN], by simp [inN], ksB_yes fun x hx => ?_, c⟩
    rcases List.mem_cons.1 hx with e | e
    · rw [e]; exact a
    · obtain ⟨p, hp, rfl⟩ := List.mem_map.1 e
      exact b p hp
theorem inN_inj {k k' : Int} {ps ps' : List Pk} (h : inN k ps = inN k' ps') : k = k' ∧ ps = ps' := by
  unfold inN at h
  injection h with _ _ h3 h4
  injection h3 with h5 h6
  refine ⟨h5, ?_⟩
  have : ∀ {a b : List Pk}, a.map (·.1) = b.map (·.1) → a.map (·.2) = b.map (·.2) → a = b := by
    intro a
    induction a with
    | nil => intro b e _; cases b with
      | nil => rfl
      | cons => cases e
    | cons x a ih => intro b e f; cases b with
      | nil => cases e
      | cons y b =>
        simp only [List.map_cons, List.cons.injEq] at e f
        rw [ih e.2 f.2, Prod.ext e.1 f.1]
  exact this h4 h6

/-- A node's bytes. -/
def bdN (n : Nd) : List UInt8 := if n.leaf = true then enL n.es else b4 (n.ks.headD 0) ++ bdP (n.ss.zip n.ks.tail)
theorem bdN_in (k : Int) (ps : List Pk) : bdN (inN k ps) = b4 k ++ bdP ps := by
  have : ∀ l : List Pk, (l.map (·.1)).zip (l.map (·.2)) = l := by
    intro l
    induction l with
    | nil => rfl
    | cons x l ih => simp [ih]
  unfold bdN inN
  simp [this]
theorem bdN_leaf {n : Nd} (h : n.leaf = true) : bdN n = enL n.es := by unfold bdN; rw [if_pos h]
theorem bdN_length {n : Nd} (h : rtN n = true) : (bdN n).length = szN n := by
  cases hl : n.leaf
  · obtain ⟨k, ps, rfl, _⟩ := rtN_pairs h hl
    rw [bdN_in, List.length_append, b4_length, bdP_length]
    rfl
  · rw [bdN_leaf hl, enL_length]
    unfold szN; rw [if_pos hl]
/-- A node's kind. -/
def kdN (n : Nd) : Int := if n.leaf = true then 1 else 2

theorem b4_nat {k : Int} (h : okK k = true) : ((beNat (b4 k) : Nat) : Int) = k := by
  have := okK_iff.1 h
  unfold b4
  rw [beNat_bytes 4 _ (by omega)]
  omega
theorem b4_of {l : List UInt8} (h : l.length = 4) : b4 ((beNat l : Nat) : Int) = l := by
  unfold b4
  rw [Int.toNat_natCast]
  exact beBytes_nat 4 l h

/-- The first key, with its kid, of some bytes, and the rest. -/
def stpK : List UInt8 → Option (Pk × List UInt8)
  | [] => none
  | c :: r => if r.length < c.toNat + 4 then none else some ((⟨(r.take c.toNat).toArray⟩, ((beNat ((r.drop c.toNat).take 4) : Nat) : Int)), r.drop (c.toNat + 4))

theorem stpK_tx (c : UInt8) (a b r : List UInt8) (h1 : c.toNat = a.length) (h2 : b.length = 4) : stpK (c :: (a ++ (b ++ r))) = some ((⟨a.toArray⟩, ((beNat b : Nat) : Int)), r) := by
  simp only [stpK]
  have e1 : ¬ (a ++ (b ++ r)).length < c.toNat + 4 := by rw [List.length_append, List.length_append]; omega
  have e2 : (a ++ (b ++ r)).drop c.toNat = b ++ r := by rw [h1]; simp
  have e3 : (a ++ (b ++ r)).take c.toNat = a := by rw [h1]; simp
  have e4 : (b ++ r).take 4 = b := by rw [← h2]; simp
  have e5 : (a ++ (b ++ r)).drop (c.toNat + 4) = r := by rw [← List.drop_drop, e2, ← h2]; simp
  rw [if_neg e1, e2, e3, e4, e5]
theorem stpK_app {p : Pk} (r : List UInt8) (h1 : p.1.size ≤ 255) (h2 : okK p.2 = true) : stpK (txL p.1 ++ b4 p.2 ++ r) = some (p, r) := by
  have s1 := Lib.size_eq p.1
  have := stpK_tx (UInt8.ofNat p.1.size) p.1.data.toList (b4 p.2) r (by rw [ofNat_size h1]; exact s1) (b4_length _)
  rw [b4_nat h2] at this
  have e : txL p.1 ++ b4 p.2 ++ r = UInt8.ofNat p.1.size :: (p.1.data.toList ++ (b4 p.2 ++ r)) := by simp [txL]
  rw [e, this]
theorem stpK_inv {s r : List UInt8} {p : Pk} (h : stpK s = some (p, r)) : s = txL p.1 ++ b4 p.2 ++ r := by
  cases s with
  | nil => simp [stpK] at h
  | cons c t =>
    simp only [stpK] at h
    by_cases h1 : t.length < c.toNat + 4
    · rw [if_pos h1] at h; cases h
    · rw [if_neg h1] at h
      cases h
      have l1 : c.toNat = (t.take c.toNat).length := by simp; omega
      have l2 : ((t.drop c.toNat).take 4).length = 4 := by simp; omega
      simp only
      rw [b4_of l2, List.append_assoc, tx_app l1, ← List.drop_drop, List.take_append_drop, List.take_append_drop]
theorem stpK_less {s r : List UInt8} {p : Pk} (h : stpK s = some (p, r)) : r.length < s.length := by
  rw [stpK_inv h, List.length_append, List.length_append, b4_length]; omega

/-- All keys, each with its kid, of some bytes. -/
def dkF : Nat → List UInt8 → Option (List Pk)
  | 0, s => if s.isEmpty then some [] else none
  | n + 1, s => if s.isEmpty then some [] else
    match stpK s with
    | none => none
    | some (x, r) => (dkF n r).map (x :: ·)
def dkL (s : List UInt8) : Option (List Pk) := dkF s.length s

theorem dkF_any : ∀ (n m : Nat) (s : List UInt8), s.length ≤ n → s.length ≤ m → dkF n s = dkF m s
  | 0, m, s, h, _ => by
    obtain rfl : s = [] := List.length_eq_zero_iff.1 (by omega)
    cases m <;> rfl
  | n + 1, 0, s, _, h => by
    obtain rfl : s = [] := List.length_eq_zero_iff.1 (by omega)
    rfl
  | n + 1, m + 1, s, h1, h2 => by
    unfold dkF
    cases hs : s.isEmpty
    · cases ht : stpK s with
      | none => rfl
      | some p =>
        obtain ⟨x, r⟩ := p
        have := stpK_less ht
        simp only
        rw [dkF_any n m r (by omega) (by omega)]
    · rfl
theorem dkL_nil : dkL [] = some [] := rfl
theorem dkL_none {s : List UInt8} (hs : s ≠ []) (h : stpK s = none) : dkL s = none := by
  cases s with
  | nil => exact absurd rfl hs
  | cons c t => unfold dkL; simp only [List.length_cons, dkF, h]; rfl
theorem dkL_some {s r : List UInt8} {x : Pk} (h : stpK s = some (x, r)) : dkL s = (dkL r).map (x :: ·) := by
  have hl := stpK_less h
  cases s with
  | nil => simp [stpK] at h
  | cons c t =>
    unfold dkL
    simp only [List.length_cons, dkF, h]
    rw [dkF_any t.length r.length r (by simpa using Nat.lt_succ_iff.1 hl) (Nat.le_refl _)]
    rfl
theorem dkL_bdP {l : List Pk} (h : ∀ p ∈ l, p.1.size ≤ 255 ∧ okK p.2 = true) : dkL (bdP l) = some l := by
  induction l with
  | nil => rfl
  | cons x l ih =>
    have h1 := h x (List.mem_cons_self ..)
    unfold bdP
    rw [dkL_some (stpK_app (bdP l) h1.1 h1.2), ih fun y hy => h y (List.mem_cons_of_mem _ hy)]
    rfl
theorem dkL_inv : ∀ (n : Nat) (s : List UInt8) (l : List Pk), s.length ≤ n → dkL s = some l → bdP l = s
  | n, [], l, _, h => by rw [dkL_nil] at h; cases h; rfl
  | 0, c :: t, l, hn, _ => by simp at hn
  | n + 1, c :: t, l, hn, h => by
    cases hs : stpK (c :: t) with
    | none => rw [dkL_none (by simp) hs] at h; cases h
    | some p =>
      obtain ⟨x, r⟩ := p
      have hl := stpK_less hs
      rw [dkL_some hs] at h
      cases hd : dkL r with
      | none => rw [hd] at h; cases h
      | some m =>
        rw [hd] at h
        cases h
        rw [bdP, dkL_inv n r m (by simp at hn hl ⊢; omega) hd, ← stpK_inv hs]

/-- The inner node of some bytes, right or not. -/
def diN (s : List UInt8) : Option Nd := if s.length < 4 then none else (dkL (s.drop 4)).map (inN ((beNat (s.take 4) : Nat) : Int))
/-- The right node that fits, of some bytes of a kind. -/
def deN (kind : Int) (s : List UInt8) : Option Nd :=
  if 240 < s.length then none
  else if kind = 1 then (if deB s = true then some ⟨true, deL s, [], []⟩ else none)
  else if kind = 2 then (match diN s with | none => none | some n => if rtN n = true then some n else none)
  else none

theorem diN_inv {s : List UInt8} {n : Nd} (h : diN s = some n) : ∃ k ps, n = inN k ps ∧ bdN n = s := by
  unfold diN at h
  by_cases c : s.length < 4
  · rw [if_pos c] at h; cases h
  · rw [if_neg c] at h
    cases hd : dkL (s.drop 4) with
    | none => rw [hd] at h; cases h
    | some ps =>
      rw [hd] at h
      cases h
      refine ⟨_, ps, rfl, ?_⟩
      rw [bdN_in, dkL_inv _ _ _ (Nat.le_refl _) hd, b4_of (by simp; omega), List.take_append_drop]
theorem diN_body {k : Int} {ps : List Pk} (hk : okK k = true) (h : ∀ p ∈ ps, p.1.size ≤ 255 ∧ okK p.2 = true) : diN (bdN (inN k ps)) = some (inN k ps) := by
  rw [bdN_in]
  unfold diN
  have e1 : (b4 k ++ bdP ps).drop 4 = bdP ps := by rw [← b4_length k]; simp
  have e2 : (b4 k ++ bdP ps).take 4 = b4 k := by rw [← b4_length k]; simp
  rw [if_neg (by rw [List.length_append, b4_length]; omega), e1, e2, dkL_bdP h, b4_nat hk]
  rfl

/-- What is encoded is decoded as it was. -/
theorem deN_body {n : Nd} (h : rtN n = true) (hs : szN n ≤ 240) : deN (kdN n) (bdN n) = some n := by
  unfold deN
  rw [if_neg (by rw [bdN_length h]; omega)]
  cases hl : n.leaf
  · have ek : kdN n = 2 := by unfold kdN; rw [hl]; rfl
    rw [ek, if_neg (by decide), if_pos rfl]
    obtain ⟨k, ps, rfl, h1, h2, h3⟩ := rtN_pairs h hl
    rw [diN_body h1 fun p hp => ⟨by have := kyB_may h3 (List.mem_map_of_mem (f := (·.1)) hp); omega, h2 p hp⟩]
    simp only
    rw [if_pos h]
  · have ek : kdN n = 1 := by unfold kdN; rw [hl]; rfl
    obtain ⟨a, b, c⟩ := (rtN_leaf hl).1 h
    obtain ⟨d1, d2⟩ := deL_enL c
    rw [ek, if_pos rfl, bdN_leaf hl, d2, if_pos rfl, d1]
    obtain ⟨lf, es, ks, ss⟩ := n
    simp only at hl a b
    subst hl a b
    rfl
/-- What is decoded is right, fits, and is encoded to just that. -/
theorem deN_some {kind : Int} {s : List UInt8} {n : Nd} (h : deN kind s = some n) : rtN n = true ∧ szN n ≤ 240 ∧ bdN n = s ∧ kdN n = kind := by
  unfold deN at h
  by_cases c : 240 < s.length
  · rw [if_pos c] at h; cases h
  · rw [if_neg c] at h
    by_cases c1 : kind = 1
    · rw [if_pos c1] at h
      cases hb : deB s
      · rw [hb, if_neg (by simp)] at h; cases h
      · rw [hb, if_pos rfl] at h
        cases h
        obtain ⟨d1, d2⟩ := deL_right hb
        have r : rtN ⟨true, deL s, [], []⟩ = true := (rtN_leaf rfl).2 ⟨rfl, rfl, d1⟩
        have e : bdN ⟨true, deL s, [], []⟩ = s := by rw [bdN_leaf rfl]; exact d2
        refine ⟨r, ?_, e, by rw [c1]; rfl⟩
        rw [← bdN_length r, e]; omega
    · rw [if_neg c1] at h
      by_cases c2 : kind = 2
      · rw [if_pos c2] at h
        cases hd : diN s with
        | none => rw [hd] at h; cases h
        | some m =>
          rw [hd] at h
          simp only at h
          cases hr : rtN m
          · rw [hr, if_neg (by simp)] at h; cases h
          · rw [hr, if_pos rfl] at h
            cases h
            obtain ⟨k, ps, e1, e2⟩ := diN_inv hd
            refine ⟨hr, by rw [← bdN_length hr, e2]; omega, e2, ?_⟩
            rw [c2, e1]; rfl
      · rw [if_neg c2] at h; cases h

/-- What Decode answers, and whether there is one. -/
def deR (kind : Int) (s : List UInt8) : Nd := (deN kind s).getD nd0
def deO (kind : Int) (s : List UInt8) : Bool := (deN kind s).isSome

end Go.Proofs.Ytmamnlphhiaeoaa

/-
  The plain mathematics of package node: which kid has a key, a node in two, two nodes in one, other kids.
-/
import Derived.Test.YtmamnlphhiaeoaaNd
namespace Go.Proofs.Ytmamnlphhiaeoaa

/-- How many keys are not above a key. -/
def chN (ss : List ByteArray) (k : ByteArray) : Nat := ss.countP fun s => !ltK k s
/-- A node that is parted. -/
def enN (n : Nd) : Bool := rtN n && (decide (2 ≤ n.es.length) || decide (2 ≤ n.ks.length))
/-- Where. -/
def spK (n : Nd) : Nat := if n.leaf = true then hfN n.es else n.ks.length / 2
def spA (n : Nd) : Nd := if n.leaf = true then ⟨true, n.es.take (spK n), [], []⟩ else ⟨false, [], n.ks.take (spK n), n.ss.take (spK n - 1)⟩
def spB (n : Nd) : Nd := if n.leaf = true then ⟨true, n.es.drop (spK n), [], []⟩ else ⟨false, [], n.ks.drop (spK n), n.ss.drop (spK n)⟩
def spM (n : Nd) : ByteArray := if n.leaf = true then n.es[spK n]!.1 else n.ss[spK n - 1]!
/-- Two nodes in one. -/
def joN (a : Nd) (k : ByteArray) (b : Nd) : Nd := if a.leaf = b.leaf then ⟨a.leaf, a.es ++ b.es, a.ks ++ b.ks, a.ss ++ (if a.leaf = true then [] else [k]) ++ b.ss⟩ else a
/-- A list with others in the place of some. -/
def rpL {α : Type} (l : List α) (f t : Nat) (o : List α) : List α := l.take f ++ o ++ l.drop t
/-- Whether kids are swapped. -/
def swB (n : Nd) (f t : Int) (ks : List Int) (ss : List ByteArray) : Bool :=
  decide (0 ≤ f) && (decide (t ≤ n.ks.length) && (decide (f < t) && (decide ((ss.length : Int) = max ((ks.length : Int) - 1) 0) && !n.leaf)))
/-- Which keys go. -/
def swF (f : Nat) (ks : List Int) : Nat := if 0 < ks.length then f else f - 1
def swT (f t : Nat) (ks : List Int) : Nat := if 0 < ks.length then t - 1 else if 0 < f then t - 1 else t
def swN (n : Nd) (f t : Int) (ks : List Int) (ss : List ByteArray) : Nd :=
  if swB n f t ks ss = true then ⟨false, n.es, rpL n.ks f.toNat t.toNat ks, rpL n.ss (swF f.toNat ks) (swT f.toNat t.toNat ks) ss⟩ else n

theorem take_nextS {α : Type} [Inhabited α] {l : List α} {i : Nat} (h : i < l.length) : l.take (i + 1) = l.take i ++ [l[i]!] := by
  rw [List.take_add_one, List.getElem?_eq_getElem h, getElem!_pos l i h]; rfl

theorem enN_leaf {n : Nd} (h : enN n = true) (hl : n.leaf = true) : n.ks = [] ∧ n.ss = [] ∧ Rg n.es ∧ 2 ≤ n.es.length := by
  unfold enN at h
  rw [Bool.and_eq_true] at h
  obtain ⟨h1, h2⟩ := h
  obtain ⟨a, b, c⟩ := (rtN_leaf hl).1 h1
  refine ⟨a, b, c, ?_⟩
  rw [a] at h2
  simpa using h2
theorem enN_inner {n : Nd} (h : enN n = true) (hl : n.leaf = false) : n.es = [] ∧ 2 ≤ n.ks.length ∧ n.ss.length + 1 = n.ks.length ∧ ksB n.ks = true ∧ kyB n.ss = true := by
  unfold enN at h
  rw [Bool.and_eq_true] at h
  obtain ⟨h1, h2⟩ := h
  obtain ⟨a, _, b, c, d⟩ := (rtN_inner hl).1 h1
  refine ⟨a, ?_, b, c, d⟩
  rw [a] at h2
  simpa using h2

theorem spK_is {n : Nd} (h : enN n = true) : 1 ≤ spK n ∧ (n.leaf = true → spK n < n.es.length) ∧ (n.leaf = false → spK n < n.ks.length ∧ spK n ≤ n.ss.length) := by
  unfold spK
  cases hl : n.leaf
  · obtain ⟨_, h1, h2, _⟩ := enN_inner h hl
    rw [if_neg (by simp)]
    exact ⟨by omega, fun e => by simp at e, fun _ => by omega⟩
  · obtain ⟨_, _, _, h1⟩ := enN_leaf h hl
    have := hfN_is h1
    rw [if_pos rfl]
    exact ⟨this.1, fun _ => this.2.1, fun e => by simp at e⟩

/-- Split and Join lead back. -/
theorem sp_back {n : Nd} (h : enN n = true) : joN (spA n) (spM n) (spB n) = n := by
  obtain ⟨k1, k2, k3⟩ := spK_is h
  cases hl : n.leaf
  · obtain ⟨h1, _⟩ := enN_inner h hl
    have k3 := k3 hl
    unfold joN spA spB spM
    simp only [hl, Bool.false_eq_true, if_false, if_true, List.append_nil, List.take_append_drop]
    generalize spK n = q at *
    obtain ⟨lf, es, ks, ss⟩ := n
    simp only at hl h1 k3 ⊢
    subst hl h1
    congr
    rw [← take_nextS (show q - 1 < ss.length by omega), show q - 1 + 1 = q by omega, List.take_append_drop]
  · obtain ⟨h1, h2, _⟩ := enN_leaf h hl
    unfold joN spA spB
    simp only [hl, if_true, List.append_nil, List.take_append_drop]
    obtain ⟨lf, es, ks, ss⟩ := n
    simp only at hl h1 h2 ⊢
    subst hl h1 h2
    rfl

theorem ksB_sub {l m : List Int} (h : ksB l = true) (s : m.Sublist l) : ksB m = true := ksB_yes fun _ hk => ksB_mem h (s.subset hk)

/-- Both parts are right. -/
theorem sp_right {n : Nd} (h : enN n = true) : rtN (spA n) = true ∧ rtN (spB n) = true := by
  obtain ⟨k1, k2, k3⟩ := spK_is h
  cases hl : n.leaf
  · obtain ⟨_, h2, h3, h4, h5⟩ := enN_inner h hl
    have k3 := k3 hl
    unfold spA spB
    simp only [hl, Bool.false_eq_true, if_false]
    generalize spK n = q at *
    refine ⟨(rtN_inner rfl).2 ⟨rfl, ?_, ?_, ksB_sub h4 (List.take_sublist _ _), kyB_sub h5 (List.take_sublist _ _)⟩, (rtN_inner rfl).2 ⟨rfl, ?_, ?_, ksB_sub h4 (List.drop_sublist _ _), kyB_sub h5 (List.drop_sublist _ _)⟩⟩
    · simp; omega
    · simp; omega
    · simp; omega
    · simp; omega
  · obtain ⟨_, _, h3, _⟩ := enN_leaf h hl
    unfold spA spB
    simp only [hl, if_true]
    exact ⟨(rtN_leaf rfl).2 ⟨rfl, rfl, h3.sub (List.take_sublist _ _)⟩, (rtN_leaf rfl).2 ⟨rfl, rfl, h3.sub (List.drop_sublist _ _)⟩⟩

/-- None of them is empty. -/
theorem sp_full {n : Nd} (h : enN n = true) : 0 < (spA n).es.length + (spA n).ks.length ∧ 0 < (spB n).es.length + (spB n).ks.length := by
  obtain ⟨k1, k2, k3⟩ := spK_is h
  unfold spA spB
  cases hl : n.leaf
  · have k3 := k3 hl
    simp only [Bool.false_eq_true, if_false]
    simp; omega
  · have k2 := k2 hl
    simp only [if_true]
    simp; omega
theorem sp_leaf (n : Nd) : (spA n).leaf = n.leaf ∧ (spB n).leaf = n.leaf := by
  unfold spA spB
  cases n.leaf <;> exact ⟨rfl, rfl⟩

/-- The key between has a byte. -/
theorem spM_size {n : Nd} (h : enN n = true) : 1 ≤ (spM n).size := by
  obtain ⟨k1, k2, k3⟩ := spK_is h
  unfold spM
  cases hl : n.leaf
  · obtain ⟨_, h2, h3, h4, h5⟩ := enN_inner h hl
    have k3 := k3 hl
    rw [if_neg (by simp)]
    refine (kyB_may h5 ?_).1
    rw [getElem!_pos n.ss _ (by omega)]
    exact List.getElem_mem _
  · obtain ⟨_, _, h3, _⟩ := enN_leaf h hl
    have k2 := k2 hl
    rw [if_pos rfl]
    refine (mayB_iff.1 (h3.may n.es[spK n]! ?_)).1
    rw [getElem!_pos n.es _ k2]
    exact List.getElem_mem _

/-- A leaf's key is in the part that the key between says. -/
theorem sp_keys {n : Nd} (h : enN n = true) (hl : n.leaf = true) (k : ByteArray) :
    fdB n.es k = (fdB (spA n).es k || fdB (spB n).es k) ∧ (fdB (spA n).es k = true → ltK k (spM n) = true ∧ fdB (spB n).es k = false) ∧ (fdB (spB n).es k = true → ltK k (spM n) = false) := by
  obtain ⟨k1, k2, _⟩ := spK_is h
  have k2 := k2 hl
  obtain ⟨_, _, hr, _⟩ := enN_leaf h hl
  unfold spA spB spM
  simp only [hl, if_true]
  generalize spK n = q at *
  generalize n.es = l at *
  have hA : fdB (l.take q) k = true → ltK k l[q]!.1 = true := fun e => by
    obtain ⟨x, hx, rfl⟩ := fdB_iff.1 e
    obtain ⟨i, hi, rfl⟩ := List.getElem_of_mem hx
    have hi' : i < q := by simp at hi; omega
    have := hr.up.at hi' k2
    rw [bang_get (show i < l.length by omega)] at this
    simpa using this
  have hB : fdB (l.drop q) k = true → ltK k l[q]!.1 = false := fun e => by
    obtain ⟨x, hx, rfl⟩ := fdB_iff.1 e
    obtain ⟨i, hi, rfl⟩ := List.getElem_of_mem hx
    have hi' : q + i < l.length := by simp at hi; omega
    rw [List.getElem_drop]
    rcases Nat.eq_zero_or_pos i with c | c
    · subst c
      simp only [Nat.add_zero]
      rw [← bang_get k2]
      exact ltK_irrefl _
    · have := hr.up.at (show q < q + i by omega) hi'
      rw [bang_get hi'] at this
      exact ltK_asymm this
  refine ⟨?_, fun e => ⟨hA e, ?_⟩, hB⟩
  · have e := List.take_append_drop q l
    have : fdB l k = fdB (l.take q ++ l.drop q) k := by rw [e]
    rw [this]
    simp only [fdB, List.any_append]
  · cases c : fdB (l.drop q) k
    · rfl
    · have a1 := hA e
      rw [hB c] at a1
      cases a1

theorem chN_at {ss : List ByteArray} (h : kyB ss = true) {k : ByteArray} {q : Nat} (hq : q ≤ ss.length) (h1 : ∀ j, j < q → ltK k ss[j]! = false) (h2 : q < ss.length → ltK k ss[q]! = true) : chN ss k = q := by
  unfold chN
  have e := List.take_append_drop q ss
  have : ss.countP (fun s => !ltK k s) = (ss.take q ++ ss.drop q).countP (fun s => !ltK k s) := by rw [e]
  rw [this, List.countP_append]
  have a : (ss.take q).countP (fun s => !ltK k s) = q := by
    rw [List.countP_eq_length.2]
    · simp; omega
    · intro s hs
      obtain ⟨i, hi, rfl⟩ := List.getElem_of_mem hs
      have hi' : i < q := by simp at hi; omega
      have := h1 i hi'
      rw [getElem!_pos ss i (by omega)] at this
      simpa using this
  have b : (ss.drop q).countP (fun s => !ltK k s) = 0 := by
    rw [List.countP_eq_zero]
    intro s hs
    obtain ⟨i, hi, rfl⟩ := List.getElem_of_mem hs
    have hi' : q + i < ss.length := by simp at hi; omega
    rw [List.getElem_drop]
    have h3 := h2 (by omega)
    have h4 : ltK k ss[q + i]! = true := by
      rcases Nat.eq_zero_or_pos i with c | c
      · subst c; exact h3
      · exact ltK_trans h3 (kyB_at h (show q < q + i by omega) hi')
    rw [getElem!_pos ss _ hi'] at h4
    simp [h4]
  rw [a, b]; omega

/-- An inner node's kid is in the part that the key between says. -/
theorem sp_child {n : Nd} (h : enN n = true) (hl : n.leaf = false) (k : ByteArray) :
    (ltK k (spM n) = true → chN (spA n).ss k = chN n.ss k) ∧ (ltK k (spM n) = false → chN n.ss k = (spA n).ks.length + chN (spB n).ss k) := by
  obtain ⟨k1, _, k3⟩ := spK_is h
  have k3 := k3 hl
  obtain ⟨_, h2, h3, h4, h5⟩ := enN_inner h hl
  unfold spA spB spM
  simp only [hl, Bool.false_eq_true, if_false]
  generalize spK n = q at *
  generalize n.ss = l at *
  have hlen : (n.ks.take q).length = q := by simp; omega
  rw [hlen]
  constructor
  · intro hk
    unfold chN
    have e : l.countP (fun s => !ltK k s) = (l.take (q - 1) ++ l.drop (q - 1)).countP (fun s => !ltK k s) := by rw [List.take_append_drop]
    rw [e, List.countP_append]
    have b : (l.drop (q - 1)).countP (fun s => !ltK k s) = 0 := by
      rw [List.countP_eq_zero]
      intro s hs
      obtain ⟨i, hi, rfl⟩ := List.getElem_of_mem hs
      have hi' : q - 1 + i < l.length := by simp at hi; omega
      rw [List.getElem_drop]
      have h4 : ltK k l[q - 1 + i]! = true := by
        rcases Nat.eq_zero_or_pos i with c | c
        · subst c; exact hk
        · exact ltK_trans hk (kyB_at h5 (show q - 1 < q - 1 + i by omega) hi')
      rw [getElem!_pos l _ hi'] at h4
      simp [h4]
    omega
  · intro hk
    unfold chN
    have e : l.countP (fun s => !ltK k s) = (l.take q ++ l.drop q).countP (fun s => !ltK k s) := by rw [List.take_append_drop]
    rw [e, List.countP_append]
    have a : (l.take q).countP (fun s => !ltK k s) = q := by
      rw [List.countP_eq_length.2]
      · simp; omega
      · intro s hs
        obtain ⟨i, hi, rfl⟩ := List.getElem_of_mem hs
        have hi' : i < q := by simp at hi; omega
        have h4 : ltK k l[i]! = false := by
          rcases Nat.lt_or_ge i (q - 1) with c | c
          · have := kyB_at h5 c (show q - 1 < l.length by omega)
            cases e : ltK k l[i]!
            · rfl
            · rw [ltK_trans e this] at hk; cases hk
          · rw [show i = q - 1 by omega]; exact hk
        rw [getElem!_pos l i (by omega)] at h4
        simpa using h4
    omega

/-- The same kid put back makes the node that it was. -/
theorem sw_back {n : Nd} (h : rtN n = true) (hl : n.leaf = false) {k : Nat} (hk : k < n.ks.length) {ks : List Int} {ss : List ByteArray} (hks : ks ≠ []) (hss : ss.length + 1 = ks.length) :
    swN n k (k + 1) ks ss = ⟨false, [], n.ks.take k ++ ks ++ n.ks.drop (k + 1), n.ss.take k ++ ss ++ n.ss.drop k⟩ ∧
      swN (swN n k (k + 1) ks ss) k (k + ks.length) [n.ks[k]!] [] = n := by
  obtain ⟨a, b, c, d, e⟩ := (rtN_inner hl).1 h
  obtain ⟨lf, es, nk, ns⟩ := n
  simp only at hl a b c d e hk
  subst hl a
  have hpos : 0 < ks.length := List.length_pos_iff.2 hks
  have e1 : swN ⟨false, [], nk, ns⟩ k (k + 1) ks ss = ⟨false, [], nk.take k ++ ks ++ nk.drop (k + 1), ns.take k ++ ss ++ ns.drop k⟩ := by
    have hb : swB ⟨false, [], nk, ns⟩ k (k + 1) ks ss = true := by
      unfold swB; simp; omega
    unfold swN
    rw [if_pos hb]
    unfold rpL swF swT
    rw [if_pos hpos, if_pos hpos]
    simp [show ((k : Int) + 1).toNat = k + 1 by omega]
  refine ⟨e1, ?_⟩
  rw [e1]
  have hb : swB ⟨false, [], nk.take k ++ ks ++ nk.drop (k + 1), ns.take k ++ ss ++ ns.drop k⟩ k (k + ks.length) [nk[k]!] [] = true := by
    unfold swB; simp; omega
  unfold swN
  rw [if_pos hb]
  unfold rpL swF swT
  simp only [Int.toNat_natCast, show ((k : Int) + (ks.length : Int)).toNat = k + ks.length by omega, List.length_singleton, Nat.lt_one_iff, if_true]
  congr 1
  · have l1 : (nk.take k).length = k := by simp; omega
    have t1 : (nk.take k ++ ks ++ nk.drop (k + 1)).take k = nk.take k := by
      rw [List.append_assoc, List.take_append_of_le_length (by omega), List.take_of_length_le (by omega)]
    have t2 : (nk.take k ++ ks ++ nk.drop (k + 1)).drop (k + ks.length) = nk.drop (k + 1) := by
      rw [List.drop_append_of_le_length (by simp; omega), List.drop_of_length_le (by simp; omega), List.nil_append]
    rw [t1, t2, ← take_nextS hk, List.take_append_drop]
  · have l1 : (ns.take k).length = k := by simp; omega
    have t1 : (ns.take k ++ ss ++ ns.drop k).take k = ns.take k := by
      rw [List.append_assoc, List.take_append_of_le_length (by omega), List.take_of_length_le (by omega)]
    have t2 : (ns.take k ++ ss ++ ns.drop k).drop (k + ks.length - 1) = ns.drop k := by
      rw [List.drop_append_of_le_length (by simp; omega), List.drop_of_length_le (by simp; omega), List.nil_append]
    rw [t1, t2, List.append_nil, List.take_append_drop]

end Go.Proofs.Ytmamnlphhiaeoaa

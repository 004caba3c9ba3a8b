/-
  What fresh pages hold: a map from numbers to contents, among things that lie apart.
-/
import Derived.Test.YtnngfkjbbedkpaaGreatDoorBDisk
import Derived.Maps.OwnIn
import Derived.Maps.OwnSet
import Derived.Lib.SlKeysI
namespace Go.Proofs.YtnngfkjbbedkpaaGreatDoor
open Go.RowKit
open Go.ChangeMaps (setBlock)
set_option linter.unusedVariables false

/-- What a fresh page holds. -/
structure C3 where
  there : Bool
  kind : UInt8
  body : ByteArray
def c0 : C3 := ⟨false, 0, ByteArray.empty⟩
def cV (c : C3) : Value := .agg #[.bool c.there, .int .u8 (c.kind.toNat : Int), .string c.body]

def RC (v : Value) : Option (DataW Value × List MemPlace) := some (.held v, [])
def Wf (k : Int) : Prop := -9223372036854775808 ≤ k ∧ k ≤ 9223372036854775807
theorem Wf.lit {k : Int} (h : Wf k) : (Lit.int .i64 k).wf = true := by
  have h1 := h.1
  have h2 := h.2
  have e1 : IntKind.min .i64 = -9223372036854775808 := by decide
  have e2 : IntKind.max .i64 = 9223372036854775807 := by decide
  unfold Lit.wf
  simp only [e1, e2]
  simp [h1, h2]
theorem Wf.key {k : Int} (h : Wf k) : keyOf Tryz.prog 3 (.int .i64 k) = some (.int .i64 k) := Maps.keyOf_int_mk Tryz.underlying3 h.lit
theorem keyedI : Maps.Keyed Tryz.prog 3 := Maps.int_keyed Tryz.underlying3
theorem zeroC (w : World) : (zeroValue 93).run Tryz.prog w = .ok (cV c0) w := by kernel_rfl

abbrev Fr := Int → Option C3
/-- What a map reads as. -/
def View (D : DataW Value) (g : Fr) : Prop := ∀ k, Maps.has D (.int .i64 k) = (g k).isSome ∧ ∀ z, D.atKey (.int .i64 k) z = (g k).elim z fun c => .held (cV c)
def putF (g : Fr) (k : Int) (c : C3) : Fr := fun q => if q = k then some c else g q
def delF (g : Fr) (k : Int) : Fr := fun q => if q = k then none else g q

theorem view_nil : View (.map []) (fun _ => none) := fun k => ⟨rfl, fun z => rfl⟩
theorem lit_ne {q k : Int} (h : q ≠ k) : (Lit.int .i64 q) ≠ .int .i64 k := fun e => h (by injection e)
theorem View.put {D : DataW Value} {g : Fr} (h : View D g) (hD : Maps.IsMap D) (k : Int) (c : C3) : View (D.put (.int .i64 k) (.held (cV c))) (putF g k c) := by
  intro q
  unfold putF
  by_cases hq : q = k
  · subst hq
    rw [if_pos rfl]
    have hkl : WideAt.IsKeyLit (.int .i64 q) := by simp [WideAt.IsKeyLit]
    exact ⟨Maps.has_put_same hD hkl _, fun z => Maps.atKey_put_same hD hkl _ z⟩
  · rw [if_neg hq]
    exact ⟨(Maps.has_put_other (lit_ne hq) _).trans (h q).1, fun z => (Maps.atKey_put_other (lit_ne hq) _ z).trans ((h q).2 z)⟩
theorem View.del {D : DataW Value} {g : Fr} (h : View D g) (k : Int) : View (D.del (.int .i64 k)) (delF g k) := by
  intro q
  unfold delF
  by_cases hq : q = k
  · subst hq
    rw [if_pos rfl]
    exact ⟨Maps.has_del_same, fun z => Maps.atKey_del_same z⟩
  · rw [if_neg hq]
    exact ⟨(Maps.has_del_other (lit_ne hq)).trans (h q).1, fun z => (Maps.atKey_del_other (lit_ne hq) z).trans ((h q).2 z)⟩

/-- A map that holds what fresh pages hold; n: a bound on its entries. -/
def MapC (m : Nat) (g : Fr) (n : Nat) : Res := fun w X => (∃ D, w.ownsMap Tryz.prog 3 RC m n D ∧ View D g) ∧ ∀ k, X k ↔ k = m
theorem good_map (m : Nat) (g : Fr) (n : Nat) : Good (MapC m g n) :=
  ⟨fun w w' X h hk _ => by
    obtain ⟨⟨D, ⟨es, clock, hb, r⟩, hv⟩, hX⟩ := h
    exact ⟨⟨D, ⟨es, clock, (hk m ((hX m).2 rfl)).trans hb, r⟩, hv⟩, hX⟩, fun w X h k hk => by
    obtain ⟨⟨D, o, _⟩, hX⟩ := h
    rw [(hX k).1 hk]; exact o.lt⟩

section
variable {B : Nat} {w0 w w' : World} {l : List Res} {m n : Nat} {g : Fr}
theorem Sep.map1 (h : Sep B w0 w (MapC m g n :: l)) : ∃ D, w.ownsMap Tryz.prog 3 RC m n D ∧ View D g := by
  obtain ⟨_, _, Y, ⟨_, X, _, ha, _⟩, _⟩ := h; exact ha.1
theorem Sep.addMap (h : Sep B w0 w l) : Sep B w0 (w.alloc (.map #[] 0)) (MapC w.heap.size (fun _ => none) 0 :: l) :=
  h.add ((Below.refl _ _).alloc (Nat.le_refl _) _) (good_map _ _ _) (X := fun k => k = w.heap.size) ⟨⟨_, World.ownsMap_made w _ _ _, view_nil⟩, fun _ => Iff.rfl⟩ (fun k hk => Nat.le_of_eq hk.symm)
theorem held_inv {v : Value} {z c : C3} {D : DataW Value} {ps : List MemPlace} {g : Option C3} (hv : RC v = some (D, ps)) (hD : D = g.elim (.held (cV z)) fun c => .held (cV c)) : v = cV (g.getD z) := by
  unfold RC at hv
  cases g with
  | none => subst hD; simp at hv; exact hv.1
  | some c => subst hD; simp at hv; exact hv.1
/-- v, ok := m[k] -/
theorem Sep.lookOk (h : Sep B w0 w (MapC m g n :: l)) {k : Int} (hk : Wf k) : (Instr.lookup 83 (.map (some m)) (.int .i64 k) true).run Tryz.prog w = .ok (.tuple #[cV ((g k).getD c0), .bool (g k).isSome]) w := by
  obtain ⟨D, o, hv⟩ := h.map1
  obtain ⟨v, ps, hr, hR⟩ := o.look_ok keyedI Tryz.underlying83 (zeroC w) (zd := .held (cV c0)) (zp := []) rfl hk.key
  rw [hr, held_inv (z := c0) (c := c0) hR ((hv k).2 _), (hv k).1]
/-- m[k] -/
theorem Sep.look1 (h : Sep B w0 w (MapC m g n :: l)) {k : Int} (hk : Wf k) : (Instr.lookup 83 (.map (some m)) (.int .i64 k) false).run Tryz.prog w = .ok (cV ((g k).getD c0)) w := by
  obtain ⟨D, o, hv⟩ := h.map1
  obtain ⟨v, ps, hr, hR⟩ := o.lookup keyedI Tryz.underlying83 (zeroC w) (zd := .held (cV c0)) (zp := []) rfl hk.key
  rw [hr, held_inv (z := c0) (c := c0) hR ((hv k).2 _)]
theorem Turn.mapTurned {X : Nat → Prop} {w w' : World} {m : Nat} (hm : X m) (h : w.mapTurned w' m) : Turn X w w' := by
  obtain ⟨es, clock, es', clock', hb, rfl⟩ := h
  exact Turn.setBlock w hm _
/-- m[k] = v -/
theorem Sep.mapPut (h : Sep B w0 w (MapC m g n :: l)) {k : Int} (hk : Wf k) (c : C3) (hn : n < 1000000) : ∃ w', (Instr.mapUpdate 83 (.map (some m)) (.int .i64 k) (cV c)).run Tryz.prog w = .ok () w' ∧ Sep B w0 w' (MapC m (putF g k c) (n + 1) :: l) := by
  obtain ⟨D, o, hv⟩ := h.map1
  obtain ⟨w', hr, o', ht⟩ := o.store keyedI Tryz.underlying83 (Nat.lt_of_lt_of_le hn (by decide)) hk.key (val := cV c) (d := .held (cV c)) (ps := []) rfl
  refine ⟨w', hr, h.step (good_map _ _ _) fun X hX => ⟨X, ⟨⟨_, o', hv.put o.isMap k c⟩, hX.2⟩, Turn.mapTurned ((hX.2 m).2 rfl) ht, fun k hk => .inl hk⟩⟩
/-- delete(m, k) -/
theorem Sep.mapDel (h : Sep B w0 w (MapC m g n :: l)) {k : Int} (hk : Wf k) (ty : TypeId) : ∃ w', (Builtin.delete_ #[83, 3] ty #[.map (some m), .int .i64 k]).run Tryz.prog w = .ok (.tuple #[]) w' ∧ Sep B w0 w' (MapC m (delF g k) n :: l) := by
  obtain ⟨D, o, hv⟩ := h.map1
  obtain ⟨w', hr, o', ht⟩ := o.drop keyedI Tryz.underlying83 hk.key ty
  refine ⟨w', hr, h.step (good_map _ _ _) fun X hX => ⟨X, ⟨⟨_, o', hv.del k⟩, hX.2⟩, Turn.mapTurned ((hX.2 m).2 rfl) ht, fun k hk => .inl hk⟩⟩
end

/-- The numbers that a map has, rising. -/
def KeysOf (g : Fr) (L : List Int) : Prop := L.Pairwise (· < ·) ∧ ∀ k, k ∈ L ↔ (g k).isSome = true
theorem keys_sorted {w : World} {m n : Nat} {g : Fr} {D : DataW Value} (o : w.ownsMap Tryz.prog 3 RC m n D) (hv : View D g) {ss : List Int} (hp : ss.Perm (intKeys D)) : KeysOf g (ss.mergeSort (fun x y => decide (x ≤ y))) ∧ ss.length ≤ n := by
  obtain ⟨es, rfl, hpw, _⟩ := o.entries keyedI
  obtain ⟨es', hD', hko⟩ := o.keysOf
  obtain rfl : es = es' := by simpa using hD'
  have hkk : ∀ p ∈ es, ∃ x, p.1 = .int .i64 x := fun p hp => by obtain ⟨v, hv⟩ := hko p hp; obtain ⟨x, _, hx, _⟩ := Maps.keyOf_i64 Tryz.underlying3 hv; exact ⟨x, hx⟩
  have hnd : (intKeys (.map es)).Nodup := by
    show (es.map fun p => Go.intOf p.1).Nodup
    refine List.pairwise_map.2 (hpw.imp_of_mem fun {p q} hp' hq' hne e => hne ?_)
    obtain ⟨a, ha⟩ := hkk p hp'
    obtain ⟨b, hb⟩ := hkk q hq'
    rw [ha, hb] at e ⊢
    exact congrArg _ e
  have hmem : ∀ x, x ∈ intKeys (.map es) ↔ (g x).isSome = true := fun x => by
    rw [← (hv x).1, Maps.has_eq, List.any_eq_true]
    show x ∈ es.map (fun p => Go.intOf p.1) ↔ _
    rw [List.mem_map]
    constructor
    · rintro ⟨p, hp', rfl⟩
      obtain ⟨a, ha⟩ := hkk p hp'
      exact ⟨p, hp', by rw [ha]; simp [Lit.sameKey, Go.intOf]⟩
    · rintro ⟨p, hp', hs⟩
      obtain ⟨a, ha⟩ := hkk p hp'
      rw [ha] at hs
      exact ⟨p, hp', by rw [ha]; simpa [Lit.sameKey, Go.intOf] using hs⟩
  refine ⟨⟨?_, fun k => ?_⟩, ?_⟩
  · have tr : ∀ a b c : Int, leI a b = true → leI b c = true → leI a c = true := fun a b c h1 h2 => by simp only [leI, decide_eq_true_eq] at *; exact Int.le_trans h1 h2
    have tt : ∀ a b : Int, (leI a b || leI b a) = true := fun a b => by simp only [leI, Bool.or_eq_true, decide_eq_true_eq]; exact Int.le_total a b
    have h1 := List.pairwise_mergeSort tr tt ss
    have h2 : (ss.mergeSort leI).Nodup := ((List.mergeSort_perm ss leI).trans hp).nodup_iff.2 hnd
    refine (List.pairwise_and_iff.2 ⟨h1, h2⟩).imp fun {a b} hab => ?_
    have := of_decide_eq_true hab.1
    have h3 := hab.2
    omega
  · rw [((List.mergeSort_perm ss _).trans hp).mem_iff]; exact hmem k
  · rw [hp.length_eq]
    have := o.size_le
    simpa [intKeys, Maps.size] using this
theorem KeysOf.unique {g : Fr} {L M : List Int} (hL : KeysOf g L) (hM : KeysOf g M) : L = M := by
  refine List.Perm.eq_of_pairwise (le := fun a b => a < b) (fun a b _ _ h1 h2 => by omega) hL.1 hM.1 ((List.perm_ext_iff_of_nodup (hL.1.imp fun h => by omega) (hM.1.imp fun h => by omega)).2 fun x => ?_)
  rw [hL.2, hM.2]

end Go.Proofs.YtnngfkjbbedkpaaGreatDoor

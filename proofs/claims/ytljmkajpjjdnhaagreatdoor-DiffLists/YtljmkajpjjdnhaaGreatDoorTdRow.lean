/-
  Rows of things of several cells, among things that lie apart: one more at the end, inside a round of a range over a function and outside of it; without the last one.
-/
import Derived.Maps.OwnIn
import Derived.Maps.AppendAt
import Derived.Test.YtljmkajpjjdnhaaGreatDoorSepK
import Derived.Test.YtljmkajpjjdnhaaGreatDoorTd
import Derived.Test.YtljmkajpjjdnhaaGreatDoorBEn
namespace Go.Proofs.YtljmkajpjjdnhaaGreatDoor.N
open Go.Shelf Go.RowKit Go.Lib Go.Sort
set_option linter.unusedVariables false
set_option linter.unusedSectionVars false
variable [DecidableEq Dl] [Inhabited Dl]

section
variable {B : Nat} {w0 w w' : World} {l : List Res} {e : TypeId} {k n : Nat} {v v' : Value} {cs : List Value}
theorem appendedK {m : Nat} {news : List Value} (h : Sep B w0 w (RowK e k v n cs :: l)) (h2 : w'.ownsRow 0 e k v' m news) (hg : w.grownBy w' v.ownBlock) (hloc : v'.ownBlock = v.ownBlock ∨ v'.ownBlock = some w.heap.size) : Sep B w0 w' (RowK e k v' m news :: l) := by
  refine h.step (good_rowK _ _ _ _ _) fun X hX => ⟨fun q => v'.ownBlock = some q, ⟨h2, fun q => Iff.rfl⟩, Turn.grown hg (fun q hq => (hX.2 q).2 hq), fun q hq => ?_⟩
  rcases hloc with e1 | e1
  · exact .inl ((hX.2 q).2 (e1 ▸ hq))
  · rw [e1] at hq
    exact .inr (Nat.le_of_eq (Option.some.inj hq))

theorem ownPre {w : World} {base m : Nat} {ao : Option Addr} {c : Nat} {cs : List Value} (h : w.ownsRow base e k (.slice ao n c) n cs) (hm : m ≤ n) : w.ownsRow base e k (.slice ao m c) m (cs.take (m * k)) := by
  have hk : m * k ≤ n * k := Nat.mul_le_mul_right k hm
  refine ⟨by rw [List.length_take, h.1]; omega, ?_⟩
  rcases h.2 with ⟨h1, h2⟩ | ⟨g, cap, cur, h1, h2, h3, h4, h5, h6, h7⟩
  · left
    cases h1
    obtain rfl : m = 0 := by omega
    exact ⟨rfl, rfl⟩
  · cases h1
    right
    refine ⟨g, c, cur, rfl, h2, h3, by omega, h5, h6, ?_⟩
    rw [← h7, List.take_take, Nat.min_eq_left hk]
theorem preK {m : Nat} {ao : Option Addr} {c : Nat} (h : Sep B w0 w (RowK e k (.slice ao n c) n cs :: l)) (hm : m ≤ n) : Sep B w0 w (RowK e k (.slice ao m c) m (cs.take (m * k)) :: l) := by
  refine h.step (good_rowK _ _ _ _ _) fun X hX => ⟨X, ⟨ownPre hX.1 hm, fun q => ?_⟩, Turn.refl _ _, fun q hq => .inl hq⟩
  rw [hX.2 q]
  cases ao <;> exact Iff.rfl

variable {F : Fence} {nF : Nat} {ops : Array Oper} {rest : List Oper} {o : Oper} {a : Act} {Q : Exit → Act → World → Prop} {P : Program} {z : Value} {bytes : Nat} {t : TypeId} {r c m : Nat} {news : List Value} {s x : Operand}
theorem newsAt {r : Nat} {w : World} {ts : TypeId} {news : List Value} (h : w.heap[r]? = some (.cells news.toArray ts (0, 0))) : ∀ j u, news[j]? = some u → w.cell? ((⟨r, 0, none⟩ : Addr).add j) = some u := fun j u hj => by
  rw [Go.WideShapes.add_plain, Nat.zero_add]
  simp only [World.cell?, h]
  simpa using hj
theorem appInK (hgd : o.guard = .none) (ho : o.op = .call { callee := .builtin .append, args := #[s, x], argTypes := #[t, t] }) (hinf : (P.info? e).map (fun i => (i.zero, i.size, i.bytes)) = some (some z, k, bytes)) (ht : P.underlying t = some (.slice e)) (hz : z.cells.size = k) (hk : 0 < k) (hby : bytes ≤ 1000)
    (v : Value) (hs : a.eval s = v) (h : Sep B w0 w (RowK e k v n cs :: l)) (hx : a.eval x = .slice (some ⟨r, 0, none⟩) 1 c) (hnews : ∀ j u, news[j]? = some u → w.cell? ((⟨r, 0, none⟩ : Addr).add j) = some u) (hlen : news.length = k) (h1 : ∀ u ∈ news, u.oneCell' = true) (hn : n < 1000000)
    (hK : ∀ ao c' w', Sep B w0 w' (RowK e k (.slice ao (n + 1) c') (n + 1) (cs ++ news) :: l) → wpListIn F nF P ops Q rest (a.put o.dst (.slice ao (n + 1) c')) w') : wpListIn F nF P ops Q (o :: rest) a w := by
  obtain ⟨i0, hi, hz0, hz1, hz2⟩ := info_parts hinf
  refine wpListIn_append_own_at w hgd s x t ho 0 e i0 z k bytes ht hi hz0 hz1 hz2 hz hk v n cs hs h.rowK ⟨r, 0, none⟩ 1 c news hx (by omega) hnews h1 (by unfold maxLen; omega) ?_ (Nat.zero_le _) ?_
  · exact Nat.le_trans (Nat.mul_le_mul (show n + 1 ≤ 1000000 by omega) hby) (by decide)
  · intro v' w' g1 g2 _ g4
    obtain ⟨ao', n', c', rfl⟩ : ∃ ao n c, v' = .slice ao n c := by
      rcases g1.2 with ⟨h, _⟩ | ⟨g, cap, cur, h, _⟩
      · exact ⟨_, _, _, h⟩
      · exact ⟨_, _, _, h⟩
    obtain rfl : n' = n + 1 := by
      rcases g1.2 with ⟨_, h⟩ | ⟨g, cap, cur, h, _⟩
      · omega
      · cases h; rfl
    exact hK _ _ _ (appendedK h g1 g2 g4)
theorem appK (hgd : o.guard = .none) (ho : o.op = .call { callee := .builtin .append, args := #[s, x], argTypes := #[t, t] }) (hinf : (P.info? e).map (fun i => (i.zero, i.size, i.bytes)) = some (some z, k, bytes)) (ht : P.underlying t = some (.slice e)) (hz : z.cells.size = k) (hk : 0 < k) (hby : bytes ≤ 1000)
    (v : Value) (hs : a.eval s = v) (h : Sep B w0 w (RowK e k v n cs :: l)) (hx : a.eval x = .slice (some ⟨r, 0, none⟩) 1 c) (hnews : ∀ j u, news[j]? = some u → w.cell? ((⟨r, 0, none⟩ : Addr).add j) = some u) (hlen : news.length = k) (h1 : ∀ u ∈ news, u.oneCell' = true) (hn : n < 1000000)
    (hK : ∀ ao c' w', Sep B w0 w' (RowK e k (.slice ao (n + 1) c') (n + 1) (cs ++ news) :: l) → wpList P ops Q rest (a.put o.dst (.slice ao (n + 1) c')) w') : wpList P ops Q (o :: rest) a w := by
  obtain ⟨i0, hi, hz0, hz1, hz2⟩ := info_parts hinf
  refine wpList_append_own_at w hgd s x t ho 0 e i0 z k bytes ht hi hz0 hz1 hz2 hz hk v n cs hs h.rowK ⟨r, 0, none⟩ 1 c news hx (by omega) hnews h1 (by unfold maxLen; omega) ?_ (Nat.zero_le _) ?_
  · exact Nat.le_trans (Nat.mul_le_mul (show n + 1 ≤ 1000000 by omega) hby) (by decide)
  · intro v' w' g1 g2 _ g4
    obtain ⟨ao', n', c', rfl⟩ : ∃ ao n c, v' = .slice ao n c := by
      rcases g1.2 with ⟨h, _⟩ | ⟨g, cap, cur, h, _⟩
      · exact ⟨_, _, _, h⟩
      · exact ⟨_, _, _, h⟩
    obtain rfl : n' = n + 1 := by
      rcases g1.2 with ⟨_, h⟩ | ⟨g, cap, cur, h, _⟩
      · omega
      · cases h; rfl
    exact hK _ _ _ (appendedK h g1 g2 g4)
end

/-- What is still to be gone through. -/
structure Th where
  fr : ByteArray
  tt : ByteArray
  pg : Int
  dp : Int
  vl : ByteArray
variable [Inhabited Th]
def encT (x : Th) : List Value := [.string x.fr, .string x.tt, .int .i64 x.pg, .int .i64 x.dp, .string x.vl]
theorem encT_len (x : Th) : (encT x).length = 5 := rfl
theorem encT_one (x : Th) : ∀ v ∈ encT x, v.oneCell' = true := fun v hv => by simp [encT] at hv; rcases hv with rfl | rfl | rfl | rfl | rfl <;> rfl
theorem infoThing : (Tryz.prog.info? 51).map (fun i => (i.zero, i.size, i.bytes)) = some (some (.agg #[.string ⟨#[]⟩, .string ⟨#[]⟩, .int .i64 0, .int .i64 0, .string ⟨#[]⟩]), 5, 64) := by kernel_rfl
/-- An entry, to be gone through. -/
def tE (x : En) : Th := ⟨x.1, e0, 0, 0, x.2⟩
def encD (d : Dl) : List Value := [.string d.key, .string d.old, .string d.new, .bool d.was, .bool d.is]
theorem encD_len (x : Dl) : (encD x).length = 5 := rfl
theorem encD_one (x : Dl) : ∀ v ∈ encD x, v.oneCell' = true := fun v hv => by simp [encD] at hv; rcases hv with rfl | rfl | rfl | rfl | rfl <;> rfl
theorem infoDelta : (Tryz.prog.info? 37).map (fun i => (i.zero, i.size, i.bytes)) = some (some (.agg #[.string ⟨#[]⟩, .string ⟨#[]⟩, .string ⟨#[]⟩, .bool false, .bool false]), 5, 56) := by kernel_rfl

/-- A stack; a row of deltas. -/
def StR (v : Value) (s : List Th) : Res := RowK 51 5 v s.length (flatK encT 5 s.toArray).toList
def DeR (v : Value) (s : List Dl) : Res := RowK 37 5 v s.length (flatK encD 5 s.toArray).toList
theorem good_st (v : Value) (s : List Th) : Good (StR v s) := good_rowK _ _ _ _ _
theorem good_de (v : Value) (s : List Dl) : Good (DeR v s) := good_rowK _ _ _ _ _

end Go.Proofs.YtljmkajpjjdnhaaGreatDoor.N

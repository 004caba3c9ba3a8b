/-
  The walks of package entry's splice, Get, Put and Delete.
-/
import Derived.Test.YtmamnlphhiaeoaaEnRight
namespace Go.Proofs.Ytmamnlphhiaeoaa
open Go.Shelf Go.RowKit Go.Lib Go.Sort

/-- A new row of entries is answered; nothing that was there has turned. -/
def Gv (w : World) (l : List En) (e : Ending) (w' : World) : Prop := ∃ v', e = .returned v' ∧ Own encP 2 w.heap.size w' v' l ∧ Below w.heap.size w w'

theorem enSlU : Try.prog.underlying 22 = some (.slice (Try.prog.elem 22)) := by kernel_rfl
theorem enSlZ (u : World) : (sizeOf (Try.prog.elem 22)).run Try.prog u = .ok 2 u := by kernel_rfl

theorem add0 (a : Addr) : a.add 0 = a := by
  cases a; simp [Addr.add]
theorem run_pre (ao : Option Addr) (n c k : Nat) (hk : k ≤ c) (u : World) : (Instr.slice 22 (.slice ao n c) none (some (.int .i64 (k : Int))) none).run Try.prog u = .ok (.slice ao k c) u := by
  rw [run_slice_h u 22 ao n c enSlU .i64 k (by omega) (by omega), enSlZ]
  simp only [Result.andThen, sliced, Int.toNat_natCast]
  cases ao <;> simp [add0]
theorem run_zero (ao : Option Addr) (n c : Nat) (u : World) : (Instr.slice 22 (.slice ao n c) none (some (.int .i64 0)) (some (.int .i64 0))).run Try.prog u = .ok (.slice ao 0 0) u := by
  rw [run_slice_hm u 22 ao n c enSlU .i64 .i64 0 0 (by omega) (by omega) (by omega), enSlZ]
  simp [Result.andThen, sliced]
theorem run_suf (ao : Option Addr) (n c k : Nat) (hk : k ≤ n) (u : World) : (Instr.slice 22 (.slice ao n c) (some (.int .i64 (k : Int))) none none).run Try.prog u = .ok (.slice (if c = k then ao else ao.map (·.add (k * 2))) (n - k) (c - k)) u := by
  rw [run_slice_l u 22 ao n c enSlU .i64 k (by omega) (by omega), enSlZ]
  simp [Result.andThen, sliced]

theorem Row.plain {w : World} {ao : Option Addr} {n c : Nat} {l : List En} (h : Row encP 2 w (.slice ao n c) l) (hne : l ≠ []) : ∃ g o, ao = some ⟨g, o, none⟩ := by
  obtain ⟨ao1, cap, e, h1, h2, h3⟩ := h
  cases e
  obtain ⟨b, off, e, _⟩ := h3 hne
  exact ⟨b, off, e⟩

theorem Row.pre {w : World} {ao : Option Addr} {n c : Nat} {l : List En} (h : Row encP 2 w (.slice ao n c) l) (k : Nat) (hk : k ≤ l.length) : Row encP 2 w (.slice ao k c) (l.take k) := by
  have e := h
  obtain ⟨ao1, cap, e1, h1, h2, h3⟩ := e
  cases e1
  have := h.part 0 k k (by omega) hk ao (fun b off e _ => by rw [e]; simp) c (by omega) h2
  simpa using this
theorem Row.suf {w : World} {ao : Option Addr} {n c : Nat} {l : List En} (h : Row encP 2 w (.slice ao n c) l) (k : Nat) (hk : k ≤ l.length) : Row encP 2 w (.slice (if c = k then ao else ao.map (·.add (k * 2))) (n - k) (c - k)) (l.drop k) := by
  have e := h
  obtain ⟨ao1, cap, e1, h1, h2, h3⟩ := e
  cases e1
  have := h.part k l.length (l.length - k) (by omega) (Nat.le_refl _) (if c = k then ao else ao.map (·.add (k * 2))) (fun b off e hm => by
    rw [if_neg (by omega), e]
    show some (Addr.add ⟨b, off, none⟩ (k * 2)) = _
    rw [Go.WideShapes.add_plain]) (c - k) (by omega) (fun e => by
    by_cases c1 : c = k
    · omega
    · rw [if_neg c1] at e
      have : ao = none := by cases ao with
        | none => rfl
        | some a => simp at e
      have := h2 this
      omega)
  rwa [List.take_of_length_le (by simp)] at this

theorem Row.to {w w' : World} {v : Value} {l : List En} {B : Nat} (h : Row encP 2 w v l) (hb : Below B w w') (hB : w.heap.size ≤ B) : Row encP 2 w' v l := h.below (hb.mono hB)

theorem Row.drewN {w : World} {v : Value} {l : List En} (h : Row encP 2 w v l) (n : Nat) : Row encP 2 (w.drewN n) v l := h.below ((GR.refl w).drewN n).below

/-- What Get answers. -/
def geV (l : List En) (k : ByteArray) : ByteArray := if rgB l = true then gtV l k else ⟨#[]⟩
def geB (l : List En) (k : ByteArray) : Bool := rgB l && fdB l k
/-- What Put and Delete answer. -/
def puL (l : List En) (k v : ByteArray) : List En := if (mayB k v && rgB l) = true then ptL l k v else l
def deE (l : List En) (k : ByteArray) : List En := if rgB l = true then dlL l k else l

theorem geV_no {l : List En} {k : ByteArray} {i : Nat} {f : Bool} (hf : Fnd l k i f) (h : f = false ∨ rgB l = false) : geV l k = ⟨#[]⟩ ∧ geB l k = false := by
  unfold geV geB
  cases hr : rgB l
  · exact ⟨rfl, rfl⟩
  · have h2 := (hf.2.2 (rg_of hr)).2
    rcases h with h | h
    · rw [h] at h2
      rw [← h2, gtV_no h2.symm]
      exact ⟨rfl, rfl⟩
    · rw [hr] at h; cases h
theorem geV_yes {l : List En} {k : ByteArray} {i : Nat} (hf : Fnd l k i true) (hr : rgB l = true) : geV l k = l[i]!.2 ∧ geB l k = true := by
  obtain ⟨h1, h2⟩ := hf.2.2 (rg_of hr)
  unfold geV geB
  rw [hr, if_pos rfl, gtV_at (rg_of hr) h2.symm, ← h1, ← h2]
  exact ⟨rfl, rfl⟩

theorem puL_no {l : List En} {k v : ByteArray} (h : mayB k v = false ∨ rgB l = false) : puL l k v = l := by
  unfold puL
  rcases h with h | h <;> simp [h]
theorem puL_yes {l : List En} {k v : ByteArray} {i : Nat} {f : Bool} (hf : Fnd l k i f) (hm : mayB k v = true) (hr : rgB l = true) (j : Nat) (hj : j = if f = true then i + 1 else i) : l.take i ++ [(k, v)] ++ l.drop j = puL l k v := by
  obtain ⟨h1, h2⟩ := hf.2.2 (rg_of hr)
  unfold puL
  rw [hm, hr, Bool.and_self, if_pos rfl, h1]
  refine ptL_cut (rg_of hr) hm ?_
  rw [hj, h1, h2]

theorem deE_no {l : List En} {k : ByteArray} {i : Nat} {f : Bool} (hf : Fnd l k i f) (h : f = false ∨ rgB l = false) : deE l k = l := by
  unfold deE
  cases hr : rgB l
  · rfl
  · have h2 := (hf.2.2 (rg_of hr)).2
    rcases h with h | h
    · rw [h] at h2
      rw [if_pos rfl, dlL_none h2.symm]
    · rw [hr] at h; cases h
theorem deE_yes {l : List En} {k : ByteArray} {i : Nat} (hf : Fnd l k i true) (hr : rgB l = true) : l.take i ++ [] ++ l.drop (i + 1) = deE l k := by
  obtain ⟨h1, h2⟩ := hf.2.2 (rg_of hr)
  unfold deE
  rw [hr, if_pos rfl, List.append_nil, h1, dlL_cut (rg_of hr) h2.symm]

end Go.Proofs.Ytmamnlphhiaeoaa

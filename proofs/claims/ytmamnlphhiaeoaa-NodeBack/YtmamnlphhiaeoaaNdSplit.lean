/-
  The walk of package node's Split.
-/
import Derived.Test.YtmamnlphhiaeoaaNdSwap
import Derived.Test.YtmamnlphhiaeoaaNdRt
namespace Go.Proofs.Ytmamnlphhiaeoaa
open Go.Shelf Go.RowKit Go.Lib Go.Sort
attribute [local go_sem ↓] Go.wp_at_zero Go.wp_at_succ
set_option linter.unusedVariables false

theorem clOther {w : World} {q r : Nat} {t : TypeId} {cs : Array Value} {a b c d : Value} (h : Cl w q cs t) (hne : q ≠ r) : Cl (set4 w r a b c d) q cs t := by
  unfold Cl set4 at *
  rw [Below.heap_setCell _ _ _ _ hne, Below.heap_setCell _ _ _ _ hne, Below.heap_setCell _ _ _ _ hne, Below.heap_setCell _ _ _ _ hne]
  exact h
theorem clUndr {w : World} {q : Nat} {t : TypeId} {cs : Array Value} (h : Cl w.drew q cs t) : Cl w q cs t := h
theorem belUndr {B : Nat} {u w : World} (h : Below B u w.drew) : Below B u w := ⟨h.os, h.tape, h.output, h.size, h.block⟩
theorem ownUndr {base : Nat} {w : World} {e : TypeId} {k : Nat} {v : Value} {n : Nat} {xs : List Value} (h : w.drew.ownsRow base e k v n xs) : w.ownsRow base e k v n xs := h
theorem ownDr {base : Nat} {w : World} {e : TypeId} {k : Nat} {v : Value} {n : Nat} {xs : List Value} (h : w.ownsRow base e k v n xs) : w.drew.ownsRow base e k v n xs := h
/-- Two blocks written one behind the other. -/
theorem fin2 {w : World} {p : Nat} {t : TypeId} {u0 u1 u2 u3 v0 v1 v2 v3 : Value} (h2 : Cl w (p + 1) #[u0, u1, u2, u3] t) (h3 : Cl w (p + 1 + 1) #[v0, v1, v2, v3] t) (a0 a1 a2 a3 b0 b1 b2 b3 : Value) :
    Cl ((((((((w.setCell ⟨p + 1, 0, none⟩ a0).setCell ⟨p + 1, 1, none⟩ a1).setCell ⟨p + 1, 2, none⟩ a2).setCell ⟨p + 1, 3, none⟩ a3).setCell ⟨p + 1 + 1, 0, none⟩ b0).setCell ⟨p + 1 + 1, 1, none⟩ b1).setCell ⟨p + 1 + 1, 2, none⟩ b2).setCell ⟨p + 1 + 1, 3, none⟩ b3).drew (p + 1) #[a0, a1, a2, a3] t ∧
    Cl ((((((((w.setCell ⟨p + 1, 0, none⟩ a0).setCell ⟨p + 1, 1, none⟩ a1).setCell ⟨p + 1, 2, none⟩ a2).setCell ⟨p + 1, 3, none⟩ a3).setCell ⟨p + 1 + 1, 0, none⟩ b0).setCell ⟨p + 1 + 1, 1, none⟩ b1).setCell ⟨p + 1 + 1, 2, none⟩ b2).setCell ⟨p + 1 + 1, 3, none⟩ b3).drew (p + 1 + 1) #[b0, b1, b2, b3] t ∧
    (∀ w0, Below p w0 w → Below p w0 ((((((((w.setCell ⟨p + 1, 0, none⟩ a0).setCell ⟨p + 1, 1, none⟩ a1).setCell ⟨p + 1, 2, none⟩ a2).setCell ⟨p + 1, 3, none⟩ a3).setCell ⟨p + 1 + 1, 0, none⟩ b0).setCell ⟨p + 1 + 1, 1, none⟩ b1).setCell ⟨p + 1 + 1, 2, none⟩ b2).setCell ⟨p + 1 + 1, 3, none⟩ b3).drew) ∧
    (∀ e k v n xs, w.ownsRow (p + 3) e k v n xs → ((((((((w.setCell ⟨p + 1, 0, none⟩ a0).setCell ⟨p + 1, 1, none⟩ a1).setCell ⟨p + 1, 2, none⟩ a2).setCell ⟨p + 1, 3, none⟩ a3).setCell ⟨p + 1 + 1, 0, none⟩ b0).setCell ⟨p + 1 + 1, 1, none⟩ b1).setCell ⟨p + 1 + 1, 2, none⟩ b2).setCell ⟨p + 1 + 1, 3, none⟩ b3).drew.ownsRow (p + 3) e k v n xs) := by
  have ne1 : p + 1 ≠ p + 1 + 1 := by omega
  refine ⟨Cl.dr (clOther (r := p + 1 + 1) (a := b0) (b := b1) (c := b2) (d := b3) (h2.set4 a0 a1 a2 a3) ne1), Cl.dr (Cl.set4 (clOther (r := p + 1) (a := a0) (b := a1) (c := a2) (d := a3) h3 ne1.symm) b0 b1 b2 b3), fun w0 h => ?_, fun e k v n xs h => ?_⟩
  · exact (belSet4 (q := p + 1 + 1) (a := b0) (b := b1) (c := b2) (d := b3) (belSet4 (q := p + 1) (a := a0) (b := a1) (c := a2) (d := a3) h (by omega)) (by omega)).drew
  · exact ownDr (ownSet4 (q := p + 1 + 1) (a := b0) (b := b1) (c := b2) (d := b3) (ownSet4 (q := p + 1) (a := a0) (b := a1) (c := a2) (d := a3) h (by omega)) (by omega))
theorem row_atR {w : World} {ao : Option Addr} {n c : Nat} {l : List En} (h : Row encP 2 w (.slice ao n c) l) (i : Nat) (hi : i < l.length) : ∃ b off, ao = some ⟨b, off, none⟩ ∧ b < w.heap.size ∧ w.cell? ⟨b, off + i * 2, none⟩ = some (.string l[i]!.1) ∧ w.cell? ⟨b, off + i * 2 + 1, none⟩ = some (.string l[i]!.2) := by
  obtain ⟨ao1, cap, e, h1, h2, h3⟩ := h
  cases e
  exact row_at h3 i hi (Below.refl _ _)

/-- What Split answers: two nodes, and the key between. -/
def GvS (w : World) (a : Nd) (m : ByteArray) (b : Nd) (e : Ending) (w' : World) : Prop :=
  ∃ ve vk vs ue uk us, e = .returned (.tuple #[.agg #[.bool a.leaf, ve, vk, vs], .string m, .agg #[.bool b.leaf, ue, uk, us]]) ∧ NdO w.heap.size w' ve vk vs a ∧ NdO w.heap.size w' ue uk us b ∧ Below w.heap.size w w'

theorem results_ctc {fn : Func} {p q r : Tmp} {ty tz : TypeId} (h : fn.results = #[.cell p ty, .tmp q, .cell r tz]) (tmps : Array Value) (P : Program) (w : World) :
    (results fn tmps).run P w = ((asAddr (tmps.getD p undef)).run P w).andThen fun a w₁ => ((loadVar ty a).run P w₁).andThen fun x w₂ => ((asAddr (tmps.getD r undef)).run P w₂).andThen fun b w₃ => ((loadVar tz b).run P w₃).andThen fun y w₄ => .ok (.tuple #[x, tmps.getD q undef, y]) w₄ := by
  simp only [results, h]
  simp [Sem.run_bind, Result.andThen]

set_option maxHeartbeats 4000000 in
set_option maxRecDepth 100000 in
theorem split_leaf (es : List En) (ve vk vs : Value) (w : World) (h : NdR w ve vk vs ⟨true, es, [], []⟩) (hm : Sm ⟨true, es, [], []⟩) (hr : enN ⟨true, es, [], []⟩ = true) :
    Calls Try.prog 22 #[.agg #[.bool true, ve, vk, vs]] w (GvS w ⟨true, es.take (hfN es), [], []⟩ es[hfN es]!.1 ⟨true, es.drop (hfN es), [], []⟩) := by
  obtain ⟨s1, s2, s3, s4, s5⟩ := hm
  simp only at s1 s2 s3 s4 s5
  obtain ⟨_, _, _, h2l⟩ := enN_leaf hr rfl
  simp only at h2l
  have hf := hfN_is h2l
  obtain ⟨n, hn⟩ : ∃ n, hfN es = n := ⟨_, rfl⟩
  rw [hn] at hf ⊢
  have HN : Hid (hfN es = n) := hn
  clear hn
  obtain ⟨ks, hks⟩ : ∃ ks : List Int, ks = [] := ⟨_, rfl⟩
  obtain ⟨ss, hss0⟩ : ∃ ss : List ByteArray, ss = [] := ⟨_, rfl⟩
  rw [← hks, ← hss0] at h hr
  obtain ⟨ae, ce, rfl, hce⟩ := rowShape h.e
  obtain ⟨ak, ck, rfl, _⟩ := rowShape h.k
  obtain ⟨az, cz, rfl, _⟩ := rowShape h.s
  simp only at *
  obtain ⟨b, off, rfl, hb, _, _⟩ := row_atR h.e n (show n < es.length by omega)
  have BW : Hid (Below w.heap.size w (((w.alloc (.cells #[.bool true, .slice (some ⟨b, off, none⟩) es.length ce, .slice ak ks.length ck, .slice az ss.length cz] 26)).alloc (.cells #[.bool false, .slice none 0 0, .slice none 0 0, .slice none 0 0] 26)).alloc (.cells #[.bool false, .slice none 0 0, .slice none 0 0, .slice none 0 0] 26))) := belAlloc _ (belAlloc _ (belAlloc _ (Below.refl _ _)))
  have K1 : Cl (((w.alloc (.cells #[.bool true, .slice (some ⟨b, off, none⟩) es.length ce, .slice ak ks.length ck, .slice az ss.length cz] 26)).alloc (.cells #[.bool false, .slice none 0 0, .slice none 0 0, .slice none 0 0] 26)).alloc (.cells #[.bool false, .slice none 0 0, .slice none 0 0, .slice none 0 0] 26)) w.heap.size #[.bool true, .slice (some ⟨b, off, none⟩) es.length ce, .slice ak ks.length ck, .slice az ss.length cz] 26 := ((Cl.new0 _ _ _).alloc _).alloc _
  have K2 : Cl (((w.alloc (.cells #[.bool true, .slice (some ⟨b, off, none⟩) es.length ce, .slice ak ks.length ck, .slice az ss.length cz] 26)).alloc (.cells #[.bool false, .slice none 0 0, .slice none 0 0, .slice none 0 0] 26)).alloc (.cells #[.bool false, .slice none 0 0, .slice none 0 0, .slice none 0 0] 26)) (w.heap.size + 1) #[.bool false, .slice none 0 0, .slice none 0 0, .slice none 0 0] 26 := (Cl.new1 _ _ _ _).alloc _
  have K3 : Cl (((w.alloc (.cells #[.bool true, .slice (some ⟨b, off, none⟩) es.length ce, .slice ak ks.length ck, .slice az ss.length cz] 26)).alloc (.cells #[.bool false, .slice none 0 0, .slice none 0 0, .slice none 0 0] 26)).alloc (.cells #[.bool false, .slice none 0 0, .slice none 0 0, .slice none 0 0] 26)) (w.heap.size + 1 + 1) #[.bool false, .slice none 0 0, .slice none 0 0, .slice none 0 0] 26 := Cl.new2 _ _ _ _ _
  have HR : Aside (NdR (((w.alloc (.cells #[.bool true, .slice (some ⟨b, off, none⟩) es.length ce, .slice ak ks.length ck, .slice az ss.length cz] 26)).alloc (.cells #[.bool false, .slice none 0 0, .slice none 0 0, .slice none 0 0] 26)).alloc (.cells #[.bool false, .slice none 0 0, .slice none 0 0, .slice none 0 0] 26)) (.slice (some ⟨b, off, none⟩) es.length ce) (.slice ak ks.length ck) (.slice az ss.length cz) ⟨true, es, ks, ss⟩) := h.below BW.out
  have SM : Hid (Sm ⟨true, es, ks, ss⟩) := ⟨s1, by rw [hks]; simp, by rw [hss0]; simp, s4, by rw [hss0]; simp [szK]⟩
  have CR : Hid _ := nright_any _ _ _ _ _ HR.out SM.out
  have hrt : rtN ⟨true, es, ks, ss⟩ = true := by unfold enN at hr; rw [Bool.and_eq_true] at hr; exact hr.1
  rw [hrt] at CR
  have l0 : ¬ (es.length : Int) < 2 := by omega
  clear hrt hr hks hss0 h
  go_enter Try.func22, Try.ntmps22
  go_upto_region 1 with fail
  generalize (((w.alloc (.cells #[.bool true, .slice (some ⟨b, off, none⟩) es.length ce, .slice ak ks.length ck, .slice az ss.length cz] 26)).alloc (.cells #[.bool false, .slice none 0 0, .slice none 0 0, .slice none 0 0] 26)).alloc (.cells #[.bool false, .slice none 0 0, .slice none 0 0, .slice none 0 0] 26)) = W at *
  obtain ⟨p, hp⟩ : ∃ p, w.heap.size = p := ⟨_, rfl⟩
  have HP : Hid (w.heap.size = p) := hp
  rw [hp] at hb
  rw [hp] at K1 K2 K3 BW ⊢
  obtain ⟨c0, c1, c2, c3⟩ := K1.four
  clear hp
  go_wp2_with fail
  refine Calls.mono CR.out ?_
  rintro e w1 ⟨rfl, b1⟩
  have J1 : Cl w1 p #[.bool true, .slice (some ⟨b, off, none⟩) es.length ce, .slice ak ks.length ck, .slice az ss.length cz] 26 := K1.on b1
  have J2 : Cl w1 (p + 1) #[.bool false, .slice none 0 0, .slice none 0 0, .slice none 0 0] 26 := K2.on b1
  have J3 : Cl w1 (p + 1 + 1) #[.bool false, .slice none 0 0, .slice none 0 0, .slice none 0 0] 26 := K3.on b1
  have B1 : Hid (Below p w w1) := BW.out.trans (b1.mono (by have := K1.lt; omega))
  have R1 : Aside (Row encP 2 w1 (.slice (some ⟨b, off, none⟩) es.length ce) es) := HR.out.e.below b1
  clear b1 K1 K2 K3 HR CR BW c0 c1 c2 c3
  obtain ⟨c0, c1, c2, c3⟩ := J1.four
  have CH : Hid _ := half_any _ es w1 R1.out (by omega) (by omega)
  rw [HN.out] at CH
  go_wp2_with fail
  refine Calls.mono CH.out ?_
  rintro e w2 ⟨rfl, b2⟩
  have L1 : Cl w2 p #[.bool true, .slice (some ⟨b, off, none⟩) es.length ce, .slice ak ks.length ck, .slice az ss.length cz] 26 := J1.on b2
  have L2 : Cl w2 (p + 1) #[.bool false, .slice none 0 0, .slice none 0 0, .slice none 0 0] 26 := J2.on b2
  have L3 : Cl w2 (p + 1 + 1) #[.bool false, .slice none 0 0, .slice none 0 0, .slice none 0 0] 26 := J3.on b2
  have B2 : Hid (Below p w w2) := B1.out.trans (b2.mono (by have := J1.lt; omega))
  have R2 : Aside (Row encP 2 w2 (.slice (some ⟨b, off, none⟩) es.length ce) es) := R1.out.below b2
  clear b2 J1 J2 J3 R1 CH c0 c1 c2 c3 B1
  obtain ⟨c0, c1, c2, c3⟩ := L1.four
  have e1 := run_pre (some ⟨b, off, none⟩) es.length ce n (by omega)
  have e2 := run_suf (some ⟨b, off, none⟩) es.length ce n (by omega)
  have C1 : Hid _ := joinedE1 w2.heap.size 22 (.slice (some ⟨b, off, none⟩) n ce) (es.take n) (w2.alloc (.cells #[.slice (some ⟨b, off, none⟩) n ce] 22)) (Cl.new _ _ _) ((rowPre (by decide) R2.out n (by omega)).below (belAlloc _ (Below.refl _ _))) (by simp; omega)
  go_wp2_with fail
  refine Calls.mono C1.out ?_
  rintro e w3 ⟨a3, n3, m3, rfl, o3, b3⟩
  have b3' : Below w2.heap.size w2 w3 := belCall b3 (belAlloc _ (Below.refl _ _))
  have M1 : Cl (w3.alloc (.cells #[.bool true, .slice a3 n3 m3, .slice none 0 0, .slice none 0 0] 26)) p #[.bool true, .slice (some ⟨b, off, none⟩) es.length ce, .slice ak ks.length ck, .slice az ss.length cz] 26 := (L1.on b3').alloc _
  have M2 : Cl (w3.alloc (.cells #[.bool true, .slice a3 n3 m3, .slice none 0 0, .slice none 0 0] 26)) (p + 1) #[.bool false, .slice none 0 0, .slice none 0 0, .slice none 0 0] 26 := (L2.on b3').alloc _
  have M3 : Cl (w3.alloc (.cells #[.bool true, .slice a3 n3 m3, .slice none 0 0, .slice none 0 0] 26)) (p + 1 + 1) #[.bool false, .slice none 0 0, .slice none 0 0, .slice none 0 0] 26 := (L3.on b3').alloc _
  have M6 : Cl (w3.alloc (.cells #[.bool true, .slice a3 n3 m3, .slice none 0 0, .slice none 0 0] 26)) w3.heap.size #[.bool true, .slice a3 n3 m3, .slice none 0 0, .slice none 0 0] 26 := Cl.new _ _ _
  have b4 : Below w2.heap.size w2 (w3.alloc (.cells #[.bool true, .slice a3 n3 m3, .slice none 0 0, .slice none 0 0] 26)) := belAlloc _ b3'
  have B4 : Hid (Below p w (w3.alloc (.cells #[.bool true, .slice a3 n3 m3, .slice none 0 0, .slice none 0 0] 26))) := B2.out.trans (b4.mono (by have := L1.lt; omega))
  have R4 : Aside (Row encP 2 (w3.alloc (.cells #[.bool true, .slice a3 n3 m3, .slice none 0 0, .slice none 0 0] 26)) (.slice (some ⟨b, off, none⟩) es.length ce) es) := R2.out.below b4
  have O4 : Aside (OwnP (p + 3) (w3.alloc (.cells #[.bool true, .slice a3 n3 m3, .slice none 0 0, .slice none 0 0] 26)) (.slice a3 n3 m3) (es.take n)) := ownMono (ownsRow_below o3 (belAlloc _ (Below.refl _ _))) (by have := L3.lt; simp; omega)
  have l3 := L3.lt
  have l4 := b3'.size
  clear b3 b3' b4 L1 L2 L3 R2 C1 c0 c1 c2 c3 B2 o3
  go_upto_region 6 with fail
  generalize w3.alloc (.cells #[.bool true, .slice a3 n3 m3, .slice none 0 0, .slice none 0 0] 26) = w4 at *
  obtain ⟨q4, hq4⟩ : ∃ q, w3.heap.size = q := ⟨_, rfl⟩
  rw [hq4] at M6 l4 ⊢
  clear hq4
  obtain ⟨c0, c1, c2, c3⟩ := M1.four
  have l5 := M6.lt
  generalize hsf : (if ce = n then some ⟨b, off, none⟩ else (some (⟨b, off, none⟩ : Addr)).map (·.add (n * 2))) = af at e2
  have C2 : Hid _ := joinedE1 w4.heap.size 22 (.slice af (es.length - n) (ce - n)) (es.drop n) (w4.alloc (.cells #[.slice af (es.length - n) (ce - n)] 22)) (Cl.new _ _ _) (by
    have := (rowSuf (by decide) R4.out n (by omega)).below (belAlloc (.cells #[.slice af (es.length - n) (ce - n)] 22) (Below.refl _ _))
    rwa [hsf] at this) (by simp; omega)
  clear hsf
  go_wp2_with fail
  refine Calls.mono C2.out ?_
  rintro e w5 ⟨a5, n5, m5, rfl, o5, b5⟩
  have b5' : Below w4.heap.size w4 w5 := belCall b5 (belAlloc _ (Below.refl _ _))
  have P1 : Cl (w5.alloc (.cells #[.bool true, .slice a5 n5 m5, .slice none 0 0, .slice none 0 0] 26)) p #[.bool true, .slice (some ⟨b, off, none⟩) es.length ce, .slice ak ks.length ck, .slice az ss.length cz] 26 := (M1.on b5').alloc _
  have P2 : Cl (w5.alloc (.cells #[.bool true, .slice a5 n5 m5, .slice none 0 0, .slice none 0 0] 26)) (p + 1) #[.bool false, .slice none 0 0, .slice none 0 0, .slice none 0 0] 26 := (M2.on b5').alloc _
  have P3 : Cl (w5.alloc (.cells #[.bool true, .slice a5 n5 m5, .slice none 0 0, .slice none 0 0] 26)) (p + 1 + 1) #[.bool false, .slice none 0 0, .slice none 0 0, .slice none 0 0] 26 := (M3.on b5').alloc _
  have P6 : Cl (w5.alloc (.cells #[.bool true, .slice a5 n5 m5, .slice none 0 0, .slice none 0 0] 26)) q4 #[.bool true, .slice a3 n3 m3, .slice none 0 0, .slice none 0 0] 26 := (M6.on b5').alloc _
  have P7 : Cl (w5.alloc (.cells #[.bool true, .slice a5 n5 m5, .slice none 0 0, .slice none 0 0] 26)) w5.heap.size #[.bool true, .slice a5 n5 m5, .slice none 0 0, .slice none 0 0] 26 := Cl.new _ _ _
  have b6 : Below w4.heap.size w4 (w5.alloc (.cells #[.bool true, .slice a5 n5 m5, .slice none 0 0, .slice none 0 0] 26)) := belAlloc _ b5'
  have B6 : Hid (Below p w (w5.alloc (.cells #[.bool true, .slice a5 n5 m5, .slice none 0 0, .slice none 0 0] 26))) := B4.out.trans (b6.mono (by omega))
  have R6 : Aside (Row encP 2 (w5.alloc (.cells #[.bool true, .slice a5 n5 m5, .slice none 0 0, .slice none 0 0] 26)) (.slice (some ⟨b, off, none⟩) es.length ce) es) := R4.out.below b6
  have O6 : Aside (OwnP (p + 3) (w5.alloc (.cells #[.bool true, .slice a5 n5 m5, .slice none 0 0, .slice none 0 0] 26)) (.slice a3 n3 m3) (es.take n)) := ownsRow_below O4.out b6
  have O7 : Aside (OwnP (p + 3) (w5.alloc (.cells #[.bool true, .slice a5 n5 m5, .slice none 0 0, .slice none 0 0] 26)) (.slice a5 n5 m5) (es.drop n)) := ownMono (ownsRow_below o5 (belAlloc _ (Below.refl _ _))) (by simp; omega)
  have l6 := b5'.size
  clear b5 b5' b6 M1 M2 M3 M6 R4 C2 c0 c1 c2 c3 B4 o5 O4
  go_upto_region 7 with fail
  generalize w5.alloc (.cells #[.bool true, .slice a5 n5 m5, .slice none 0 0, .slice none 0 0] 26) = w6 at *
  obtain ⟨q5, hq5⟩ : ∃ q, w5.heap.size = q := ⟨_, rfl⟩
  rw [hq5] at P7 l6 ⊢
  clear hq5
  obtain ⟨_, _, e9, _, x1, x2⟩ := row_atR R6.out n (by omega)
  cases e9
  obtain ⟨mid, hmid⟩ : ∃ m, es[n]! = m := ⟨_, rfl⟩
  rw [hmid] at x1 x2
  have HM : Hid (es[n]! = mid) := hmid
  clear hmid
  obtain ⟨c0, c1, c2, c3⟩ := P1.four
  obtain ⟨d0, d1, d2, d3⟩ := P2.four
  obtain ⟨e0, e1', e2', e3⟩ := P3.four
  obtain ⟨g0, g1, g2, g3⟩ := P2.thaw
  obtain ⟨i0, i1, i2, i3⟩ := P3.thaw
  obtain ⟨j0, j1, j2, j3⟩ := P6.four
  obtain ⟨k0, k1, k2, k3⟩ := P7.four
  have u1 : p ≠ p + 1 := by omega
  have u2 : p ≠ p + 1 + 1 := by omega
  have u3 : q4 ≠ p + 1 := by omega
  have u4 : q4 ≠ p + 1 + 1 := by omega
  have u5 : q5 ≠ p + 1 := by omega
  have u6 : q5 ≠ p + 1 + 1 := by omega
  have u7 : b ≠ p + 1 := by omega
  have u8 : b ≠ p + 1 + 1 := by omega
  have u9 : p + 1 ≠ p + 1 + 1 := by omega
  have v1 := u1.symm
  have v2 := u2.symm
  have v3 := u3.symm
  have v4 := u4.symm
  have v5 := u5.symm
  have v6 := u6.symm
  have v7 := u7.symm
  have v8 := u8.symm
  have v9 := u9.symm
  go_region_held3 (fun X => X.cell? ⟨p, 1, none⟩ = some (.slice (some ⟨b, off, none⟩) es.length ce) ∧ X.cell? ⟨b, off + n * 2, none⟩ = some (.string mid.1) ∧ X.cell? ⟨q4, 0, none⟩ = some (.bool true) ∧ X.cell? ⟨q4, 1, none⟩ = some (.slice a3 n3 m3) ∧ X.cell? ⟨q4, 2, none⟩ = some (.slice none 0 0) ∧ X.cell? ⟨q4, 3, none⟩ = some (.slice none 0 0) ∧ X.cell? ⟨q5, 0, none⟩ = some (.bool true) ∧ X.cell? ⟨q5, 1, none⟩ = some (.slice a5 n5 m5) ∧ X.cell? ⟨q5, 2, none⟩ = some (.slice none 0 0) ∧ X.cell? ⟨q5, 3, none⟩ = some (.slice none 0 0)) (go_keep) (fail)
  obtain ⟨KA, KB, BX, OX⟩ := fin2 P2 P3 (.bool true) (.slice a3 n3 m3) (.slice none 0 0) (.slice none 0 0) (.bool true) (.slice a5 n5 m5) (.slice none 0 0) (.slice none 0 0)
  generalize ((((((((w6.setCell ⟨p + 1, 0, none⟩ (.bool true)).setCell ⟨p + 1, 1, none⟩ (.slice a3 n3 m3)).setCell ⟨p + 1, 2, none⟩ (.slice none 0 0)).setCell ⟨p + 1, 3, none⟩ (.slice none 0 0)).setCell ⟨p + 1 + 1, 0, none⟩ (.bool true)).setCell ⟨p + 1 + 1, 1, none⟩ (.slice a5 n5 m5)).setCell ⟨p + 1 + 1, 2, none⟩ (.slice none 0 0)).setCell ⟨p + 1 + 1, 3, none⟩ (.slice none 0 0)).drew = X at *
  have BF : Hid (Below p w X) := BX w B6.out
  have OA : Hid (NdO p X (.slice a3 n3 m3) (.slice none 0 0) (.slice none 0 0) ⟨true, es.take n, [], []⟩) := ⟨ownMono (OX _ _ _ _ _ O6.out) (by omega), OwnI.empty _ _, OwnS.empty _ _⟩
  have OB : Hid (NdO p X (.slice a5 n5 m5) (.slice none 0 0) (.slice none 0 0) ⟨true, es.drop n, [], []⟩) := ⟨ownMono (OX _ _ _ _ _ O7.out) (by omega), OwnI.empty _ _, OwnS.empty _ _⟩
  clear BX OX
  clear c0 c1 c2 c3 d0 d1 d2 d3 e0 e1' e2' e3 g0 g1 g2 g3 i0 i1 i2 i3 j0 j1 j2 j3 k0 k1 k2 k3 x1 x2
  obtain ⟨t0, t1, t2, t3⟩ := KA.four
  obtain ⟨r0, r1, r2, r3⟩ := KB.four
  go_wp2
  (try simp only [Exit.inBlock, Exit.then])
  refine bodyPost_ret (v := .tuple #[.agg #[.bool true, .slice a3 n3 m3, .slice none 0 0, .slice none 0 0], .string mid.1, .agg #[.bool true, .slice a5 n5 m5, .slice none 0 0, .slice none 0 0]]) ?_ rfl ⟨_, _, _, _, _, _, by rw [HM.out], by rw [HP.out]; exact OA.out, by rw [HP.out]; exact OB.out, by rw [HP.out]; exact BF.out⟩
  rw [results_ctc rfl]
  go_simp

theorem rowS_atR {w : World} {ao : Option Addr} {n c : Nat} {l : List ByteArray} (h : Row encS 1 w (.slice ao n c) l) (i : Nat) (hi : i < l.length) : ∃ b off, ao = some ⟨b, off, none⟩ ∧ b < w.heap.size ∧ w.cell? ⟨b, off + i, none⟩ = some (.string l[i]!) := by
  obtain ⟨ao1, cap, e, h1, h2, h3⟩ := h
  cases e
  exact rowS_at h3 i hi (Below.refl _ _)

/-- What holds between the operations of the region. -/
def JSplA (W0 : World) (p n m nk ns ne ck cz ce : Nat) (ae ak : Option Addr) (b off : Nat) (x : List Int) (y : List ByteArray) (y0 y2 y3 y4 y5 y6 y7 y10 y11 y12 y13 y14 y15 y16 y17 y18 y19 y20 y21 y22 y23 y24 y25 y26 y27 y28 y29 y30 y31 y32 y33 y34 y35 y36 y37 y38 y39 y40 y41 y42 y43 y44 y45 y46 y47 y48 y49 y50 y51 y52 y53 y54 y55 y56 y57 y58 y59 y60 y61 y76 y77 y78 y79 y80 y81 y82 y83 y84 y85 y86 y87 y88 y89 y90 y91 y92 y93 y94 y95 y96 : Value) (f : List Bool) (a : Act) (w : World) : Prop :=
  ∃ f0 f1 f2 f3 f4 f5 f6 f7 f8 f9 f10 f11 f12 f13 f14 f15 : Bool, f = [f0, f1, f2, f3, f4, f5, f6, f7, f8, f9, f10, f11, f12, f13, f14, f15] ∧ f15 = false ∧ ∃ x9 x62 x63 x64 x65 x66 x67 x68 x69 x70 x71 x72 x73 x74 x75 : Value,
    a = { tmps := #[y0, .pointer (some ⟨p, 0, none⟩), y2, y3, y4, y5, y6, y7, .int .i64 n, x9, y10, y11, y12, y13, y14, y15, y16, y17, y18, y19, y20, y21, y22, y23, y24, y25, y26, y27, y28, y29, y30, y31, y32, y33, y34, y35, y36, y37, y38, y39, y40, y41, y42, y43, y44, y45, y46, y47, y48, y49, y50, y51, y52, y53, y54, y55, y56, y57, y58, y59, y60, y61, x62, x63, x64, x65, x66, x67, x68, x69, x70, x71, x72, x73, x74, x75, y76, y77, y78, y79, y80, y81, y82, y83, y84, y85, y86, y87, y88, y89, y90, y91, y92, y93, y94, y95, y96], defers := [] } ∧ Below W0.heap.size W0 w ∧
    Hid (f0 = true → x62 = .pointer (some ⟨p, 2, none⟩)) ∧
    Hid (f1 = true → x63 = .slice ak nk ck) ∧
    Hid (f2 = true → x64 = .int .i64 n) ∧
    Hid (f3 = true → x65 = .slice ak n ck) ∧
    Hid (f4 = true → ∃ qq, x66 = .slice (some ⟨qq, 0, none⟩) 1 1 ∧ Cl w qq #[.slice ak n ck] 23) ∧
    Hid (f5 = true → ∃ ao n c, x67 = .slice ao n c ∧ OwnI W0.heap.size w x67 (x)) ∧
    Hid (f6 = true → x68 = .pointer (some ⟨p, 3, none⟩)) ∧
    Hid (f7 = true → x69 = .slice (some ⟨b, off, none⟩) ns cz) ∧
    Hid (f8 = true → x70 = .int .i64 n) ∧
    Hid (f9 = true → x71 = .int .i64 m) ∧
    Hid (f10 = true → x72 = .slice (some ⟨b, off, none⟩) m cz) ∧
    Hid (f11 = true → ∃ qq, x73 = .slice (some ⟨qq, 0, none⟩) 1 1 ∧ Cl w qq #[.slice (some ⟨b, off, none⟩) m cz] 24) ∧
    Hid (f12 = true → ∃ ao n c, x74 = .slice ao n c ∧ OwnS W0.heap.size w x74 (y)) ∧
    Hid (f13 = true → f5 = true ∧ f12 = true ∧ x75 = .agg #[.bool false, .slice none 0 0, x67, x74]) ∧
    Hid (f14 = true → ∃ qq, x9 = .pointer (some ⟨qq, 0, none⟩) ∧ W0.heap.size ≤ qq ∧ Cl w qq #[.bool false, .slice none 0 0, .slice none 0 0, .slice none 0 0] 26)
theorem JSplA.elim {W0 : World} {p n m nk ns ne ck cz ce : Nat} {ae ak : Option Addr} {b off : Nat} {x : List Int} {y : List ByteArray} {y0 y2 y3 y4 y5 y6 y7 y10 y11 y12 y13 y14 y15 y16 y17 y18 y19 y20 y21 y22 y23 y24 y25 y26 y27 y28 y29 y30 y31 y32 y33 y34 y35 y36 y37 y38 y39 y40 y41 y42 y43 y44 y45 y46 y47 y48 y49 y50 y51 y52 y53 y54 y55 y56 y57 y58 y59 y60 y61 y76 y77 y78 y79 y80 y81 y82 y83 y84 y85 y86 y87 y88 y89 y90 y91 y92 y93 y94 y95 y96 : Value} {f : List Bool} {a : Act} {w : World} {C : List Bool → Act → World → Prop} (h : JSplA W0 p n m nk ns ne ck cz ce ae ak b off x y y0 y2 y3 y4 y5 y6 y7 y10 y11 y12 y13 y14 y15 y16 y17 y18 y19 y20 y21 y22 y23 y24 y25 y26 y27 y28 y29 y30 y31 y32 y33 y34 y35 y36 y37 y38 y39 y40 y41 y42 y43 y44 y45 y46 y47 y48 y49 y50 y51 y52 y53 y54 y55 y56 y57 y58 y59 y60 y61 y76 y77 y78 y79 y80 y81 y82 y83 y84 y85 y86 y87 y88 y89 y90 y91 y92 y93 y94 y95 y96 f a w)
    (k : ∀ (f0 f1 f2 f3 f4 f5 f6 f7 f8 f9 f10 f11 f12 f13 f14 f15 : Bool) (x9 x62 x63 x64 x65 x66 x67 x68 x69 x70 x71 x72 x73 x74 x75 : Value), f15 = false → Below W0.heap.size W0 w →
      Hid (f0 = true → x62 = .pointer (some ⟨p, 2, none⟩)) →
      Hid (f1 = true → x63 = .slice ak nk ck) →
      Hid (f2 = true → x64 = .int .i64 n) →
      Hid (f3 = true → x65 = .slice ak n ck) →
      Hid (f4 = true → ∃ qq, x66 = .slice (some ⟨qq, 0, none⟩) 1 1 ∧ Cl w qq #[.slice ak n ck] 23) →
      Hid (f5 = true → ∃ ao n c, x67 = .slice ao n c ∧ OwnI W0.heap.size w x67 (x)) →
      Hid (f6 = true → x68 = .pointer (some ⟨p, 3, none⟩)) →
      Hid (f7 = true → x69 = .slice (some ⟨b, off, none⟩) ns cz) →
      Hid (f8 = true → x70 = .int .i64 n) →
      Hid (f9 = true → x71 = .int .i64 m) →
      Hid (f10 = true → x72 = .slice (some ⟨b, off, none⟩) m cz) →
      Hid (f11 = true → ∃ qq, x73 = .slice (some ⟨qq, 0, none⟩) 1 1 ∧ Cl w qq #[.slice (some ⟨b, off, none⟩) m cz] 24) →
      Hid (f12 = true → ∃ ao n c, x74 = .slice ao n c ∧ OwnS W0.heap.size w x74 (y)) →
      Hid (f13 = true → f5 = true ∧ f12 = true ∧ x75 = .agg #[.bool false, .slice none 0 0, x67, x74]) →
      Hid (f14 = true → ∃ qq, x9 = .pointer (some ⟨qq, 0, none⟩) ∧ W0.heap.size ≤ qq ∧ Cl w qq #[.bool false, .slice none 0 0, .slice none 0 0, .slice none 0 0] 26) →
      C [f0, f1, f2, f3, f4, f5, f6, f7, f8, f9, f10, f11, f12, f13, f14, f15] { tmps := #[y0, .pointer (some ⟨p, 0, none⟩), y2, y3, y4, y5, y6, y7, .int .i64 n, x9, y10, y11, y12, y13, y14, y15, y16, y17, y18, y19, y20, y21, y22, y23, y24, y25, y26, y27, y28, y29, y30, y31, y32, y33, y34, y35, y36, y37, y38, y39, y40, y41, y42, y43, y44, y45, y46, y47, y48, y49, y50, y51, y52, y53, y54, y55, y56, y57, y58, y59, y60, y61, x62, x63, x64, x65, x66, x67, x68, x69, x70, x71, x72, x73, x74, x75, y76, y77, y78, y79, y80, y81, y82, y83, y84, y85, y86, y87, y88, y89, y90, y91, y92, y93, y94, y95, y96], defers := [] } w) : C f a w :=
  let ⟨f0, f1, f2, f3, f4, f5, f6, f7, f8, f9, f10, f11, f12, f13, f14, f15, ef, e, x9, x62, x63, x64, x65, x66, x67, x68, x69, x70, x71, x72, x73, x74, x75, ea, hB, h0, h1, h2, h3, h4, h5, h6, h7, h8, h9, h10, h11, h12, h13, h14⟩ := h
  ef ▸ ea ▸ k f0 f1 f2 f3 f4 f5 f6 f7 f8 f9 f10 f11 f12 f13 f14 f15 x9 x62 x63 x64 x65 x66 x67 x68 x69 x70 x71 x72 x73 x74 x75 e hB h0 h1 h2 h3 h4 h5 h6 h7 h8 h9 h10 h11 h12 h13 h14

/-- What holds between the operations of the region. -/
def JSplB (W0 : World) (p n nk ns ne ck cz ce : Nat) (ae ak af : Option Addr) (ag : Option Addr) (b off : Nat) (x : List Int) (y : List ByteArray) (y0 y2 y3 y4 y5 y6 y7 y9 y11 y12 y13 y14 y15 y16 y17 y18 y19 y20 y21 y22 y23 y24 y25 y26 y27 y28 y29 y30 y31 y32 y33 y34 y35 y36 y37 y38 y39 y40 y41 y42 y43 y44 y45 y46 y47 y48 y49 y50 y51 y52 y53 y54 y55 y56 y57 y58 y59 y60 y61 y62 y63 y64 y65 y66 y67 y68 y69 y70 y71 y72 y73 y74 y75 y89 y90 y91 y92 y93 y94 y95 y96 : Value) (f : List Bool) (a : Act) (w : World) : Prop :=
  ∃ f0 f1 f2 f3 f4 f5 f6 f7 f8 f9 f10 f11 f12 f13 f14 : Bool, f = [f0, f1, f2, f3, f4, f5, f6, f7, f8, f9, f10, f11, f12, f13, f14] ∧ f14 = false ∧ ∃ x10 x76 x77 x78 x79 x80 x81 x82 x83 x84 x85 x86 x87 x88 : Value,
    a = { tmps := #[y0, .pointer (some ⟨p, 0, none⟩), y2, y3, y4, y5, y6, y7, .int .i64 n, y9, x10, y11, y12, y13, y14, y15, y16, y17, y18, y19, y20, y21, y22, y23, y24, y25, y26, y27, y28, y29, y30, y31, y32, y33, y34, y35, y36, y37, y38, y39, y40, y41, y42, y43, y44, y45, y46, y47, y48, y49, y50, y51, y52, y53, y54, y55, y56, y57, y58, y59, y60, y61, y62, y63, y64, y65, y66, y67, y68, y69, y70, y71, y72, y73, y74, y75, x76, x77, x78, x79, x80, x81, x82, x83, x84, x85, x86, x87, x88, y89, y90, y91, y92, y93, y94, y95, y96], defers := [] } ∧ Below W0.heap.size W0 w ∧
    Hid (f0 = true → x76 = .pointer (some ⟨p, 2, none⟩)) ∧
    Hid (f1 = true → x77 = .slice ak nk ck) ∧
    Hid (f2 = true → x78 = .int .i64 n) ∧
    Hid (f3 = true → x79 = .slice af (nk - n) (ck - n)) ∧
    Hid (f4 = true → ∃ qq, x80 = .slice (some ⟨qq, 0, none⟩) 1 1 ∧ Cl w qq #[.slice af (nk - n) (ck - n)] 23) ∧
    Hid (f5 = true → ∃ ao n c, x81 = .slice ao n c ∧ OwnI W0.heap.size w x81 (x)) ∧
    Hid (f6 = true → x82 = .pointer (some ⟨p, 3, none⟩)) ∧
    Hid (f7 = true → x83 = .slice (some ⟨b, off, none⟩) ns cz) ∧
    Hid (f8 = true → x84 = .int .i64 n) ∧
    Hid (f9 = true → x85 = .slice ag (ns - n) (cz - n)) ∧
    Hid (f10 = true → ∃ qq, x86 = .slice (some ⟨qq, 0, none⟩) 1 1 ∧ Cl w qq #[.slice ag (ns - n) (cz - n)] 24) ∧
    Hid (f11 = true → ∃ ao n c, x87 = .slice ao n c ∧ OwnS W0.heap.size w x87 (y)) ∧
    Hid (f12 = true → f5 = true ∧ f11 = true ∧ x88 = .agg #[.bool false, .slice none 0 0, x81, x87]) ∧
    Hid (f13 = true → ∃ qq, x10 = .pointer (some ⟨qq, 0, none⟩) ∧ W0.heap.size ≤ qq ∧ Cl w qq #[.bool false, .slice none 0 0, .slice none 0 0, .slice none 0 0] 26)
theorem JSplB.elim {W0 : World} {p n nk ns ne ck cz ce : Nat} {ae ak af : Option Addr} {ag : Option Addr} {b off : Nat} {x : List Int} {y : List ByteArray} {y0 y2 y3 y4 y5 y6 y7 y9 y11 y12 y13 y14 y15 y16 y17 y18 y19 y20 y21 y22 y23 y24 y25 y26 y27 y28 y29 y30 y31 y32 y33 y34 y35 y36 y37 y38 y39 y40 y41 y42 y43 y44 y45 y46 y47 y48 y49 y50 y51 y52 y53 y54 y55 y56 y57 y58 y59 y60 y61 y62 y63 y64 y65 y66 y67 y68 y69 y70 y71 y72 y73 y74 y75 y89 y90 y91 y92 y93 y94 y95 y96 : Value} {f : List Bool} {a : Act} {w : World} {C : List Bool → Act → World → Prop} (h : JSplB W0 p n nk ns ne ck cz ce ae ak af ag b off x y y0 y2 y3 y4 y5 y6 y7 y9 y11 y12 y13 y14 y15 y16 y17 y18 y19 y20 y21 y22 y23 y24 y25 y26 y27 y28 y29 y30 y31 y32 y33 y34 y35 y36 y37 y38 y39 y40 y41 y42 y43 y44 y45 y46 y47 y48 y49 y50 y51 y52 y53 y54 y55 y56 y57 y58 y59 y60 y61 y62 y63 y64 y65 y66 y67 y68 y69 y70 y71 y72 y73 y74 y75 y89 y90 y91 y92 y93 y94 y95 y96 f a w)
    (k : ∀ (f0 f1 f2 f3 f4 f5 f6 f7 f8 f9 f10 f11 f12 f13 f14 : Bool) (x10 x76 x77 x78 x79 x80 x81 x82 x83 x84 x85 x86 x87 x88 : Value), f14 = false → Below W0.heap.size W0 w →
      Hid (f0 = true → x76 = .pointer (some ⟨p, 2, none⟩)) →
      Hid (f1 = true → x77 = .slice ak nk ck) →
      Hid (f2 = true → x78 = .int .i64 n) →
      Hid (f3 = true → x79 = .slice af (nk - n) (ck - n)) →
      Hid (f4 = true → ∃ qq, x80 = .slice (some ⟨qq, 0, none⟩) 1 1 ∧ Cl w qq #[.slice af (nk - n) (ck - n)] 23) →
      Hid (f5 = true → ∃ ao n c, x81 = .slice ao n c ∧ OwnI W0.heap.size w x81 (x)) →
      Hid (f6 = true → x82 = .pointer (some ⟨p, 3, none⟩)) →
      Hid (f7 = true → x83 = .slice (some ⟨b, off, none⟩) ns cz) →
      Hid (f8 = true → x84 = .int .i64 n) →
      Hid (f9 = true → x85 = .slice ag (ns - n) (cz - n)) →
      Hid (f10 = true → ∃ qq, x86 = .slice (some ⟨qq, 0, none⟩) 1 1 ∧ Cl w qq #[.slice ag (ns - n) (cz - n)] 24) →
      Hid (f11 = true → ∃ ao n c, x87 = .slice ao n c ∧ OwnS W0.heap.size w x87 (y)) →
      Hid (f12 = true → f5 = true ∧ f11 = true ∧ x88 = .agg #[.bool false, .slice none 0 0, x81, x87]) →
      Hid (f13 = true → ∃ qq, x10 = .pointer (some ⟨qq, 0, none⟩) ∧ W0.heap.size ≤ qq ∧ Cl w qq #[.bool false, .slice none 0 0, .slice none 0 0, .slice none 0 0] 26) →
      C [f0, f1, f2, f3, f4, f5, f6, f7, f8, f9, f10, f11, f12, f13, f14] { tmps := #[y0, .pointer (some ⟨p, 0, none⟩), y2, y3, y4, y5, y6, y7, .int .i64 n, y9, x10, y11, y12, y13, y14, y15, y16, y17, y18, y19, y20, y21, y22, y23, y24, y25, y26, y27, y28, y29, y30, y31, y32, y33, y34, y35, y36, y37, y38, y39, y40, y41, y42, y43, y44, y45, y46, y47, y48, y49, y50, y51, y52, y53, y54, y55, y56, y57, y58, y59, y60, y61, y62, y63, y64, y65, y66, y67, y68, y69, y70, y71, y72, y73, y74, y75, x76, x77, x78, x79, x80, x81, x82, x83, x84, x85, x86, x87, x88, y89, y90, y91, y92, y93, y94, y95, y96], defers := [] } w) : C f a w :=
  let ⟨f0, f1, f2, f3, f4, f5, f6, f7, f8, f9, f10, f11, f12, f13, f14, ef, e, x10, x76, x77, x78, x79, x80, x81, x82, x83, x84, x85, x86, x87, x88, ea, hB, h0, h1, h2, h3, h4, h5, h6, h7, h8, h9, h10, h11, h12, h13⟩ := h
  ef ▸ ea ▸ k f0 f1 f2 f3 f4 f5 f6 f7 f8 f9 f10 f11 f12 f13 f14 x10 x76 x77 x78 x79 x80 x81 x82 x83 x84 x85 x86 x87 x88 e hB h0 h1 h2 h3 h4 h5 h6 h7 h8 h9 h10 h11 h12 h13

set_option maxHeartbeats 16000000 in
set_option maxRecDepth 100000 in
theorem split_inner (es : List En) (ks : List Int) (ss : List ByteArray) (ve vk vs : Value) (w : World) (h : NdR w ve vk vs ⟨false, es, ks, ss⟩) (hm : Sm ⟨false, es, ks, ss⟩) (hr : enN ⟨false, es, ks, ss⟩ = true) (n m : Nat) (hn : n = ks.length / 2) (hnm : n = m + 1) :
    Calls Try.prog 22 #[.agg #[.bool false, ve, vk, vs]] w (GvS w ⟨false, [], ks.take n, ss.take m⟩ ss[m]! ⟨false, [], ks.drop n, ss.drop n⟩) := by
  obtain ⟨z0, h2k, hks, _, _⟩ := enN_inner hr rfl
  simp only at z0 h2k hks
  have hrt : rtN ⟨false, es, ks, ss⟩ = true := by unfold enN at hr; rw [Bool.and_eq_true] at hr; exact hr.1
  obtain ⟨ae, ce, rfl, hce⟩ := rowShape h.e
  obtain ⟨ak, ck, rfl, hck⟩ := rowShape h.k
  obtain ⟨az, cz, rfl, hcz⟩ := rowShape h.s
  simp only at *
  obtain ⟨b, off, rfl, hb, _⟩ := rowS_atR h.s m (show m < ss.length by omega)
  have HR0 := h
  have RX0 := rowPre (by decide) h.k n (show n ≤ ks.length by omega)
  have RY0 := rowPre (by decide) h.s m (show m ≤ ss.length by omega)
  have RU0 := rowSuf (by decide) h.k n (show n ≤ ks.length by omega)
  have RV0 := rowSuf (by decide) h.s n (show n ≤ ss.length by omega)
  have e1 := run_preI ak ks.length ck n (by omega)
  have e2 := run_preS (some ⟨b, off, none⟩) ss.length cz m (by omega)
  have e3 := run_sufI ak ks.length ck n (by omega)
  have e4 := run_sufS (some ⟨b, off, none⟩) ss.length cz n (by omega)
  generalize (if ck = n then ak else ak.map (·.add (n * 1))) = af at e3 RU0
  generalize (if cz = n then some ⟨b, off, none⟩ else (some (⟨b, off, none⟩ : Addr)).map (·.add (n * 1))) = ag at e4 RV0
  have SM : Hid (Sm ⟨false, es, ks, ss⟩) := hm
  have s2 := hm.k
  have s3 := hm.s
  simp only at s2 s3
  have HS2 : Hid (∀ W, Below w.heap.size w W → Calls Try.prog 13 #[.agg #[.bool false, .slice ae es.length ce, .slice ak ks.length ck, .slice (some ⟨b, off, none⟩) ss.length cz]] W fun e w' => e = .returned (.bool true) ∧ Below W.heap.size W w') := fun W hW => by
    have := nright_any _ _ _ _ W (HR0.below hW) hm
    rw [hrt] at this
    exact this
  have lx : (ks.take n).length ≤ 1000 := by rw [List.length_take]; omega
  have ly : (ss.take m).length ≤ 1000 := by rw [List.length_take]; omega
  have lu : (ks.drop n).length ≤ 1000 := by rw [List.length_drop]; omega
  have lv : (ss.drop n).length ≤ 1000 := by rw [List.length_drop]; omega
  obtain ⟨x, hx⟩ : ∃ x, ks.take n = x := ⟨_, rfl⟩
  obtain ⟨y, hy⟩ : ∃ x, ss.take m = x := ⟨_, rfl⟩
  obtain ⟨u, hu⟩ : ∃ x, ks.drop n = x := ⟨_, rfl⟩
  obtain ⟨v, hv⟩ : ∃ x, ss.drop n = x := ⟨_, rfl⟩
  rw [hx] at RX0 lx
  rw [hy] at RY0 ly
  rw [hu] at RU0 lu
  rw [hv] at RV0 lv
  have XX : Hid (x = ks.take n) := hx.symm
  have XY : Hid (y = ss.take m) := hy.symm
  have XU : Hid (u = ks.drop n) := hu.symm
  have XV : Hid (v = ss.drop n) := hv.symm
  have RKw : Aside (Row encI 1 w (.slice ak ks.length ck) ks) := h.k
  have RSw : Aside (Row encS 1 w (.slice (some ⟨b, off, none⟩) ss.length cz) ss) := h.s
  have hne0 : es.length = 0 := by rw [z0]; rfl
  clear hx hy hu hv hm hr hrt h HR0 z0
  generalize hlk : ks.length = nk at *
  generalize hls : ss.length = ns at *
  generalize hle : es.length = ne at *
  have n2 : (nk : Int) / 2 = (n : Int) := by omega
  have n1 : (n : Int) - 1 = (m : Int) := by omega
  have l0 : ¬ (nk : Int) < 2 := by omega
  have l1 : (ne : Int) < 2 := by omega
  have HKN : Hid (n = nk / 2) := hn
  have qm : m < n := by omega
  have wm : IntKind.i64.wrap (m : Int) = (m : Int) := by rw [IntKind.wrap_i64]; omega
  have qn : n < nk := by omega
  have qs : n ≤ ns := by omega
  have HLS : Hid (ss.length = ns) := hls
  have BW : Hid (Below w.heap.size w (((w.alloc (.cells #[.bool false, .slice ae ne ce, .slice ak nk ck, .slice (some ⟨b, off, none⟩) ns cz] 26)).alloc (.cells #[.bool false, .slice none 0 0, .slice none 0 0, .slice none 0 0] 26)).alloc (.cells #[.bool false, .slice none 0 0, .slice none 0 0, .slice none 0 0] 26))) := belAlloc _ (belAlloc _ (belAlloc _ (Below.refl _ _)))
  have K1' : Cl (((w.alloc (.cells #[.bool false, .slice ae ne ce, .slice ak nk ck, .slice (some ⟨b, off, none⟩) ns cz] 26)).alloc (.cells #[.bool false, .slice none 0 0, .slice none 0 0, .slice none 0 0] 26)).alloc (.cells #[.bool false, .slice none 0 0, .slice none 0 0, .slice none 0 0] 26)) w.heap.size #[.bool false, .slice ae ne ce, .slice ak nk ck, .slice (some ⟨b, off, none⟩) ns cz] 26 := ((Cl.new0 _ _ _).alloc _).alloc _
  have K2' : Cl (((w.alloc (.cells #[.bool false, .slice ae ne ce, .slice ak nk ck, .slice (some ⟨b, off, none⟩) ns cz] 26)).alloc (.cells #[.bool false, .slice none 0 0, .slice none 0 0, .slice none 0 0] 26)).alloc (.cells #[.bool false, .slice none 0 0, .slice none 0 0, .slice none 0 0] 26)) (w.heap.size + 1) #[.bool false, .slice none 0 0, .slice none 0 0, .slice none 0 0] 26 := (Cl.new1 _ _ _ _).alloc _
  have K3' : Cl (((w.alloc (.cells #[.bool false, .slice ae ne ce, .slice ak nk ck, .slice (some ⟨b, off, none⟩) ns cz] 26)).alloc (.cells #[.bool false, .slice none 0 0, .slice none 0 0, .slice none 0 0] 26)).alloc (.cells #[.bool false, .slice none 0 0, .slice none 0 0, .slice none 0 0] 26)) (w.heap.size + 1 + 1) #[.bool false, .slice none 0 0, .slice none 0 0, .slice none 0 0] 26 := Cl.new2 _ _ _ _ _
  have CR : Hid _ := HS2.out _ BW.out
  clear HS2 hle hls hlk hne0 hn hnm
  go_enter Try.func22, Try.ntmps22
  go_upto_region 1 with fail
  generalize (((w.alloc (.cells #[.bool false, .slice ae ne ce, .slice ak nk ck, .slice (some ⟨b, off, none⟩) ns cz] 26)).alloc (.cells #[.bool false, .slice none 0 0, .slice none 0 0, .slice none 0 0] 26)).alloc (.cells #[.bool false, .slice none 0 0, .slice none 0 0, .slice none 0 0] 26)) = W at *
  obtain ⟨p, hp⟩ : ∃ p, w.heap.size = p := ⟨_, rfl⟩
  have HP : Hid (w.heap.size = p) := hp
  rw [hp] at K1' K2' K3' BW hb ⊢
  obtain ⟨c0, c1, c2, c3⟩ := K1'.four
  go_wp2_with fail
  refine Calls.mono CR.out ?_
  rintro e w1 ⟨rfl, b1⟩
  have K1 : Cl w1 p #[.bool false, .slice ae ne ce, .slice ak nk ck, .slice (some ⟨b, off, none⟩) ns cz] 26 := K1'.on b1
  have K2 : Cl w1 (p + 1) #[.bool false, .slice none 0 0, .slice none 0 0, .slice none 0 0] 26 := K2'.on b1
  have K3 : Cl w1 (p + 1 + 1) #[.bool false, .slice none 0 0, .slice none 0 0, .slice none 0 0] 26 := K3'.on b1
  have B1 : Hid (Below p w w1) := BW.out.trans (b1.mono (by have := K1'.lt; omega))
  have RK1 : Aside (Row encI 1 w1 (.slice ak nk ck) ks) := RKw.out.below (by rw [hp]; exact B1.out)
  have RS1 : Aside (Row encS 1 w1 (.slice (some ⟨b, off, none⟩) ns cz) ss) := RSw.out.below (by rw [hp]; exact B1.out)
  have RX : Aside (Row encI 1 w1 (.slice ak n ck) x) := RX0.below (by rw [hp]; exact B1.out)
  have RY : Aside (Row encS 1 w1 (.slice (some ⟨b, off, none⟩) m cz) y) := RY0.below (by rw [hp]; exact B1.out)
  have RU0' : Aside (∀ X, Below p w X → Row encI 1 X (.slice af (nk - n) (ck - n)) u) := fun X hX => RU0.below (by rw [hp]; exact hX)
  have RV0' : Aside (∀ X, Below p w X → Row encS 1 X (.slice ag (ns - n) (cz - n)) v) := fun X hX => RV0.below (by rw [hp]; exact hX)
  have lW := K3.lt
  clear b1 K1' K2' K3' CR BW c0 c1 c2 c3 RKw RSw RX0 RY0 RU0 RV0 hp
  obtain ⟨c0, c1, c2, c3⟩ := K1.four
  have MK : Hid (∀ X, Below w1.heap.size w1 X → X.cell? ⟨p, 0, none⟩ = some (.bool false) ∧ X.cell? ⟨p, 1, none⟩ = some (.slice ae ne ce) ∧ X.cell? ⟨p, 2, none⟩ = some (.slice ak nk ck) ∧ X.cell? ⟨p, 3, none⟩ = some (.slice (some ⟨b, off, none⟩) ns cz)) := fun X hX => (K1.on hX).four
  go_upto_region 9 with fail
  clear c0 c1 c2 c3
  refine region_inv 15 (JSplA w1 p n m nk ns ne ck cz ce ae ak b off x y _ _ _ _ _ _ _ _ _ _ _ _ _ _ _ _ _ _ _ _ _ _ _ _ _ _ _ _ _ _ _ _ _ _ _ _ _ _ _ _ _ _ _ _ _ _ _ _ _ _ _ _ _ _ _ _ _ _ _ _ _ _ _ _ _ _ _ _ _ _ _ _ _ _ _ _ _ _ _ _) (by kernel_rfl) (by kernel_rfl) (by kernel_rfl) ⟨false, false, false, false, false, false, false, false, false, false, false, false, false, false, false, false, rfl, rfl, _, _, _, _, _, _, _, _, _, _, _, _, _, _, _, rfl, (Below.refl _ w1).drew, (fun h => by cases h), (fun h => by cases h), (fun h => by cases h), (fun h => by cases h), (fun h => by cases h), (fun h => by cases h), (fun h => by cases h), (fun h => by cases h), (fun h => by cases h), (fun h => by cases h), (fun h => by cases h), (fun h => by cases h), (fun h => by cases h), (fun h => by cases h), (fun h => by cases h)⟩ ?_ ?_ ?_
  · intro i f a w' hne hl hJ
    refine JSplA.elim hJ (C := fun f a w' => i ∈ Region.ready .any _ f.toArray → wpOp _ _ _ i (fun a' w'' => JSplA w1 p n m nk ns ne ck cz ce ae ak b off x y _ _ _ _ _ _ _ _ _ _ _ _ _ _ _ _ _ _ _ _ _ _ _ _ _ _ _ _ _ _ _ _ _ _ _ _ _ _ _ _ _ _ _ _ _ _ _ _ _ _ _ _ _ _ _ _ _ _ _ _ _ _ _ _ _ _ _ _ _ _ _ _ _ _ _ _ _ _ _ _ (f.set i true) a' w'') a w') ?_
    clear hJ hl f a
    intro f0 f1 f2 f3 f4 f5 f6 f7 f8 f9 f10 f11 f12 f13 f14 f15 x9 x62 x63 x64 x65 x66 x67 x68 x69 x70 x71 x72 x73 x74 x75 e15 hB h0 h1 h2 h3 h4 h5 h6 h7 h8 h9 h10 h11 h12 h13 h14 hi
    obtain ⟨hlt, hun, _⟩ := ready_mem hi
    have hlt' : i < 16 := hlt
    clear hlt
    rcases (by omega : i = 0 ∨ i = 1 ∨ i = 2 ∨ i = 3 ∨ i = 4 ∨ i = 5 ∨ i = 6 ∨ i = 7 ∨ i = 8 ∨ i = 9 ∨ i = 10 ∨ i = 11 ∨ i = 12 ∨ i = 13 ∨ i = 14) with rfl | rfl | rfl | rfl | rfl | rfl | rfl | rfl | rfl | rfl | rfl | rfl | rfl | rfl | rfl
    · have un : f0 = false := hun
      clear hun
      clear hi hne hlt'
      refine wpOp_step rfl (fun K hK => ?_)
      have HK : Shut _ := hK
      clear hK
      go_simp
      refine HK.out _ _ ?_
      exact ⟨true, f1, f2, f3, f4, f5, f6, f7, f8, f9, f10, f11, f12, f13, f14, f15, rfl, e15, _, _, _, _, _, _, _, _, _, _, _, _, _, _, _, rfl, hB, (fun _ => rfl), h1, h2, h3, h4, h5, h6, h7, h8, h9, h10, h11, h12, h13, h14⟩
    · have un : f1 = false := hun
      clear hun
      have d0 : f0 = true := ready_dep 0 hi (by kernel_rfl)
      have y0 := h0.out d0
      subst y0
      clear hi hne hlt'
      have cell := (MK.out _ hB).2.2.1
      refine wpOp_step rfl (fun K hK => ?_)
      have HK : Shut _ := hK
      clear hK
      go_simp
      refine HK.out _ _ ?_
      exact ⟨f0, true, f2, f3, f4, f5, f6, f7, f8, f9, f10, f11, f12, f13, f14, f15, rfl, e15, _, _, _, _, _, _, _, _, _, _, _, _, _, _, _, rfl, hB, h0, (fun _ => rfl), h2, h3, h4, h5, h6, h7, h8, h9, h10, h11, h12, h13, h14⟩
    · have un : f2 = false := hun
      clear hun
      clear hi hne hlt'
      refine wpOp_step rfl (fun K hK => ?_)
      have HK : Shut _ := hK
      clear hK
      go_simp
      refine HK.out _ _ ?_
      exact ⟨f0, f1, true, f3, f4, f5, f6, f7, f8, f9, f10, f11, f12, f13, f14, f15, rfl, e15, _, _, _, _, _, _, _, _, _, _, _, _, _, _, _, rfl, hB, h0, h1, (fun _ => rfl), h3, h4, h5, h6, h7, h8, h9, h10, h11, h12, h13, h14⟩
    · have un : f3 = false := hun
      clear hun
      have d1 : f1 = true := ready_dep 1 hi (by kernel_rfl)
      have y1 := h1.out d1
      subst y1
      have d2 : f2 = true := ready_dep 2 hi (by kernel_rfl)
      have y2 := h2.out d2
      subst y2
      clear hi hne hlt'
      refine wpOp_step rfl (fun K hK => ?_)
      have HK : Shut _ := hK
      clear hK
      go_simp
      refine HK.out _ _ ?_
      exact ⟨f0, f1, f2, true, f4, f5, f6, f7, f8, f9, f10, f11, f12, f13, f14, f15, rfl, e15, _, _, _, _, _, _, _, _, _, _, _, _, _, _, _, rfl, hB, h0, h1, h2, (fun _ => rfl), h4, h5, h6, h7, h8, h9, h10, h11, h12, h13, h14⟩
    · have un : f4 = false := hun
      clear hun
      have d3 : f3 = true := ready_dep 3 hi (by kernel_rfl)
      have y3 := h3.out d3
      subst y3
      clear hi hne hlt'
      refine wpOp_step rfl (fun K hK => ?_)
      have HK : Shut _ := hK
      clear hK
      go_simp
      refine HK.out _ _ ?_
      exact ⟨f0, f1, f2, f3, true, f5, f6, f7, f8, f9, f10, f11, f12, f13, f14, f15, rfl, e15, _, _, _, _, _, _, _, _, _, _, _, _, _, _, _, rfl, belAlloc _ hB, h0, h1, h2, h3, (fun _ => ⟨_, rfl, Cl.new _ _ _⟩), (fun d => let ⟨ao, n, c, e, o⟩ := h5.out d; ⟨ao, n, c, e, ownsRow_below o (belAlloc _ (Below.refl _ _))⟩), h6, h7, h8, h9, h10, (fun d => let ⟨q, e, c⟩ := h11.out d; ⟨q, e, Cl.on c (belAlloc _ (Below.refl _ _))⟩), (fun d => let ⟨ao, n, c, e, o⟩ := h12.out d; ⟨ao, n, c, e, ownsRow_below o (belAlloc _ (Below.refl _ _))⟩), h13, (fun d => let ⟨q, e, l, c⟩ := h14.out d; ⟨q, e, l, Cl.on c (belAlloc _ (Below.refl _ _))⟩)⟩
    · have un : f5 = false := hun
      clear hun
      have d4 : f4 = true := ready_dep 4 hi (by kernel_rfl)
      obtain ⟨q4, y4, c4⟩ := h4.out d4
      subst y4
      clear hi hne hlt'
      refine wpOp_step rfl (fun K hK => ?_)
      have HK : Shut _ := hK
      clear hK
      go_simp
      refine Calls.mono (joinedI1 q4 23 (.slice ak n ck) x w' c4 (RX.out.below hB) (by omega)) ?_
      rintro e w1 ⟨ao, nn, cc, rfl, ow, b1⟩
      refine HK.out _ _ ?_
      exact ⟨f0, f1, f2, f3, f4, true, f6, f7, f8, f9, f10, f11, f12, f13, f14, f15, rfl, e15, _, _, _, _, _, _, _, _, _, _, _, _, _, _, _, rfl, belCall b1 hB, h0, h1, h2, h3, (fun d => let ⟨q, e, c⟩ := h4.out d; ⟨q, e, Cl.on c (b1)⟩), (fun _ => ⟨ao, nn, cc, rfl, ownMono ow hB.size⟩), h6, h7, h8, h9, h10, (fun d => let ⟨q, e, c⟩ := h11.out d; ⟨q, e, Cl.on c (b1)⟩), (fun d => let ⟨ao, n, c, e, o⟩ := h12.out d; ⟨ao, n, c, e, ownsRow_below o (b1)⟩), (fun d => by have e := (h13.out d).1; rw [un] at e; cases e), (fun d => let ⟨q, e, l, c⟩ := h14.out d; ⟨q, e, l, Cl.on c (b1)⟩)⟩
    · have un : f6 = false := hun
      clear hun
      clear hi hne hlt'
      refine wpOp_step rfl (fun K hK => ?_)
      have HK : Shut _ := hK
      clear hK
      go_simp
      refine HK.out _ _ ?_
      exact ⟨f0, f1, f2, f3, f4, f5, true, f7, f8, f9, f10, f11, f12, f13, f14, f15, rfl, e15, _, _, _, _, _, _, _, _, _, _, _, _, _, _, _, rfl, hB, h0, h1, h2, h3, h4, h5, (fun _ => rfl), h7, h8, h9, h10, h11, h12, h13, h14⟩
    · have un : f7 = false := hun
      clear hun
      have d6 : f6 = true := ready_dep 6 hi (by kernel_rfl)
      have y6 := h6.out d6
      subst y6
      clear hi hne hlt'
      have cell := (MK.out _ hB).2.2.2
      refine wpOp_step rfl (fun K hK => ?_)
      have HK : Shut _ := hK
      clear hK
      go_simp
      refine HK.out _ _ ?_
      exact ⟨f0, f1, f2, f3, f4, f5, f6, true, f8, f9, f10, f11, f12, f13, f14, f15, rfl, e15, _, _, _, _, _, _, _, _, _, _, _, _, _, _, _, rfl, hB, h0, h1, h2, h3, h4, h5, h6, (fun _ => rfl), h8, h9, h10, h11, h12, h13, h14⟩
    · have un : f8 = false := hun
      clear hun
      clear hi hne hlt'
      refine wpOp_step rfl (fun K hK => ?_)
      have HK : Shut _ := hK
      clear hK
      go_simp
      refine HK.out _ _ ?_
      exact ⟨f0, f1, f2, f3, f4, f5, f6, f7, true, f9, f10, f11, f12, f13, f14, f15, rfl, e15, _, _, _, _, _, _, _, _, _, _, _, _, _, _, _, rfl, hB, h0, h1, h2, h3, h4, h5, h6, h7, (fun _ => rfl), h9, h10, h11, h12, h13, h14⟩
    · have un : f9 = false := hun
      clear hun
      have d8 : f8 = true := ready_dep 8 hi (by kernel_rfl)
      have y8 := h8.out d8
      subst y8
      clear hi hne hlt'
      refine wpOp_step rfl (fun K hK => ?_)
      have HK : Shut _ := hK
      clear hK
      go_simp
      refine HK.out _ _ ?_
      exact ⟨f0, f1, f2, f3, f4, f5, f6, f7, f8, true, f10, f11, f12, f13, f14, f15, rfl, e15, _, _, _, _, _, _, _, _, _, _, _, _, _, _, _, rfl, hB, h0, h1, h2, h3, h4, h5, h6, h7, h8, (fun _ => rfl), h10, h11, h12, h13, h14⟩
    · have un : f10 = false := hun
      clear hun
      have d7 : f7 = true := ready_dep 7 hi (by kernel_rfl)
      have y7 := h7.out d7
      subst y7
      have d9 : f9 = true := ready_dep 9 hi (by kernel_rfl)
      have y9 := h9.out d9
      subst y9
      clear hi hne hlt'
      refine wpOp_step rfl (fun K hK => ?_)
      have HK : Shut _ := hK
      clear hK
      go_simp
      refine HK.out _ _ ?_
      exact ⟨f0, f1, f2, f3, f4, f5, f6, f7, f8, f9, true, f11, f12, f13, f14, f15, rfl, e15, _, _, _, _, _, _, _, _, _, _, _, _, _, _, _, rfl, hB, h0, h1, h2, h3, h4, h5, h6, h7, h8, h9, (fun _ => rfl), h11, h12, h13, h14⟩
    · have un : f11 = false := hun
      clear hun
      have d10 : f10 = true := ready_dep 10 hi (by kernel_rfl)
      have y10 := h10.out d10
      subst y10
      clear hi hne hlt'
      refine wpOp_step rfl (fun K hK => ?_)
      have HK : Shut _ := hK
      clear hK
      go_simp
      refine HK.out _ _ ?_
      exact ⟨f0, f1, f2, f3, f4, f5, f6, f7, f8, f9, f10, true, f12, f13, f14, f15, rfl, e15, _, _, _, _, _, _, _, _, _, _, _, _, _, _, _, rfl, belAlloc _ hB, h0, h1, h2, h3, (fun d => let ⟨q, e, c⟩ := h4.out d; ⟨q, e, Cl.on c (belAlloc _ (Below.refl _ _))⟩), (fun d => let ⟨ao, n, c, e, o⟩ := h5.out d; ⟨ao, n, c, e, ownsRow_below o (belAlloc _ (Below.refl _ _))⟩), h6, h7, h8, h9, h10, (fun _ => ⟨_, rfl, Cl.new _ _ _⟩), (fun d => let ⟨ao, n, c, e, o⟩ := h12.out d; ⟨ao, n, c, e, ownsRow_below o (belAlloc _ (Below.refl _ _))⟩), h13, (fun d => let ⟨q, e, l, c⟩ := h14.out d; ⟨q, e, l, Cl.on c (belAlloc _ (Below.refl _ _))⟩)⟩
    · have un : f12 = false := hun
      clear hun
      have d11 : f11 = true := ready_dep 11 hi (by kernel_rfl)
      obtain ⟨q11, y11, c11⟩ := h11.out d11
      subst y11
      clear hi hne hlt'
      refine wpOp_step rfl (fun K hK => ?_)
      have HK : Shut _ := hK
      clear hK
      go_simp
      refine Calls.mono (joinedS1 q11 24 (.slice (some ⟨b, off, none⟩) m cz) y w' c11 (RY.out.below hB) (by omega)) ?_
      rintro e w1 ⟨ao, nn, cc, rfl, ow, b1⟩
      refine HK.out _ _ ?_
      exact ⟨f0, f1, f2, f3, f4, f5, f6, f7, f8, f9, f10, f11, true, f13, f14, f15, rfl, e15, _, _, _, _, _, _, _, _, _, _, _, _, _, _, _, rfl, belCall b1 hB, h0, h1, h2, h3, (fun d => let ⟨q, e, c⟩ := h4.out d; ⟨q, e, Cl.on c (b1)⟩), (fun d => let ⟨ao, n, c, e, o⟩ := h5.out d; ⟨ao, n, c, e, ownsRow_below o (b1)⟩), h6, h7, h8, h9, h10, (fun d => let ⟨q, e, c⟩ := h11.out d; ⟨q, e, Cl.on c (b1)⟩), (fun _ => ⟨ao, nn, cc, rfl, ownMono ow hB.size⟩), (fun d => by have e := (h13.out d).2.1; rw [un] at e; cases e), (fun d => let ⟨q, e, l, c⟩ := h14.out d; ⟨q, e, l, Cl.on c (b1)⟩)⟩
    · have un : f13 = false := hun
      clear hun
      have d5 : f5 = true := ready_dep 5 hi (by kernel_rfl)
      obtain ⟨a5, n5, m5, y5, o5⟩ := h5.out d5
      subst y5
      have d12 : f12 = true := ready_dep 12 hi (by kernel_rfl)
      obtain ⟨a12, n12, m12, y12, o12⟩ := h12.out d12
      subst y12
      clear hi hne hlt'
      refine wpOp_step rfl (fun K hK => ?_)
      have HK : Shut _ := hK
      clear hK
      go_simp
      refine HK.out _ _ ?_
      exact ⟨f0, f1, f2, f3, f4, f5, f6, f7, f8, f9, f10, f11, f12, true, f14, f15, rfl, e15, _, _, _, _, _, _, _, _, _, _, _, _, _, _, _, rfl, hB, h0, h1, h2, h3, h4, h5, h6, h7, h8, h9, h10, h11, h12, (fun _ => ⟨d5, d12, rfl⟩), h14⟩
    · have un : f14 = false := hun
      clear hun
      clear hi hne hlt'
      refine wpOp_step rfl (fun K hK => ?_)
      have HK : Shut _ := hK
      clear hK
      go_simp
      refine HK.out _ _ ?_
      exact ⟨f0, f1, f2, f3, f4, f5, f6, f7, f8, f9, f10, f11, f12, f13, true, f15, rfl, e15, _, _, _, _, _, _, _, _, _, _, _, _, _, _, _, rfl, belAlloc _ hB, h0, h1, h2, h3, (fun d => let ⟨q, e, c⟩ := h4.out d; ⟨q, e, Cl.on c (belAlloc _ (Below.refl _ _))⟩), (fun d => let ⟨ao, n, c, e, o⟩ := h5.out d; ⟨ao, n, c, e, ownsRow_below o (belAlloc _ (Below.refl _ _))⟩), h6, h7, h8, h9, h10, (fun d => let ⟨q, e, c⟩ := h11.out d; ⟨q, e, Cl.on c (belAlloc _ (Below.refl _ _))⟩), (fun d => let ⟨ao, n, c, e, o⟩ := h12.out d; ⟨ao, n, c, e, ownsRow_below o (belAlloc _ (Below.refl _ _))⟩), h13, (fun _ => ⟨_, rfl, hB.size, Cl.new _ _ _⟩)⟩
  · intro f a w' hl hJ
    refine JSplA.elim hJ (C := fun f a w' => 15 ∈ Region.ready .any _ f.toArray → wpOp _ _ _ 15 _ a w') ?_
    clear hJ hl f a
    intro f0 f1 f2 f3 f4 f5 f6 f7 f8 f9 f10 f11 f12 f13 f14 f15 x9 x62 x63 x64 x65 x66 x67 x68 x69 x70 x71 x72 x73 x74 x75 e15 hB h0 h1 h2 h3 h4 h5 h6 h7 h8 h9 h10 h11 h12 h13 h14 hi
    have d13 : f13 = true := ready_dep 13 hi (by kernel_rfl)
    obtain ⟨_, _, y13⟩ := h13.out d13
    subst y13
    have d14 : f14 = true := ready_dep 14 hi (by kernel_rfl)
    obtain ⟨q14, y14, l14, c14⟩ := h14.out d14
    subst y14
    have d5 : f5 = true := ready_dep 5 hi (by kernel_rfl)
    obtain ⟨a5, n5, m5, y5, o5⟩ := h5.out d5
    subst y5
    have d12 : f12 = true := ready_dep 12 hi (by kernel_rfl)
    obtain ⟨a12, n12, m12, y12, o12⟩ := h12.out d12
    subst y12
    clear hi
    obtain ⟨y0, y1, y2, y3⟩ := c14.four
    obtain ⟨g0, g1, g2, g3⟩ := c14.thaw
    refine wpOp_step rfl (fun K hK => ?_)
    have HK : Shut _ := hK
    clear hK
    go_simp
    refine HK.out _ _ ?_
    have M6 : Cl ((((w'.setCell ⟨q14, 0, none⟩ (.bool false)).setCell ⟨q14, 1, none⟩ (.slice none 0 0)).setCell ⟨q14, 2, none⟩ (.slice a5 n5 m5)).setCell ⟨q14, 3, none⟩ (.slice a12 n12 m12)) q14 #[.bool false, .slice none 0 0, .slice a5 n5 m5, .slice a12 n12 m12] 26 := c14.set4 _ _ _ _
    have b4 : Below w1.heap.size w1 ((((w'.setCell ⟨q14, 0, none⟩ (.bool false)).setCell ⟨q14, 1, none⟩ (.slice none 0 0)).setCell ⟨q14, 2, none⟩ (.slice a5 n5 m5)).setCell ⟨q14, 3, none⟩ (.slice a12 n12 m12)) := belSet4 hB l14
    have M1 : Cl ((((w'.setCell ⟨q14, 0, none⟩ (.bool false)).setCell ⟨q14, 1, none⟩ (.slice none 0 0)).setCell ⟨q14, 2, none⟩ (.slice a5 n5 m5)).setCell ⟨q14, 3, none⟩ (.slice a12 n12 m12)) p #[.bool false, .slice ae ne ce, .slice ak nk ck, .slice (some ⟨b, off, none⟩) ns cz] 26 := K1.on b4
    have M2 : Cl ((((w'.setCell ⟨q14, 0, none⟩ (.bool false)).setCell ⟨q14, 1, none⟩ (.slice none 0 0)).setCell ⟨q14, 2, none⟩ (.slice a5 n5 m5)).setCell ⟨q14, 3, none⟩ (.slice a12 n12 m12)) (p + 1) #[.bool false, .slice none 0 0, .slice none 0 0, .slice none 0 0] 26 := K2.on b4
    have M3 : Cl ((((w'.setCell ⟨q14, 0, none⟩ (.bool false)).setCell ⟨q14, 1, none⟩ (.slice none 0 0)).setCell ⟨q14, 2, none⟩ (.slice a5 n5 m5)).setCell ⟨q14, 3, none⟩ (.slice a12 n12 m12)) (p + 1 + 1) #[.bool false, .slice none 0 0, .slice none 0 0, .slice none 0 0] 26 := K3.on b4
    have B4 : Hid (Below p w ((((w'.setCell ⟨q14, 0, none⟩ (.bool false)).setCell ⟨q14, 1, none⟩ (.slice none 0 0)).setCell ⟨q14, 2, none⟩ (.slice a5 n5 m5)).setCell ⟨q14, 3, none⟩ (.slice a12 n12 m12))) := B1.out.trans (b4.mono (by omega))
    have RK4 : Aside (Row encI 1 ((((w'.setCell ⟨q14, 0, none⟩ (.bool false)).setCell ⟨q14, 1, none⟩ (.slice none 0 0)).setCell ⟨q14, 2, none⟩ (.slice a5 n5 m5)).setCell ⟨q14, 3, none⟩ (.slice a12 n12 m12)) (.slice ak nk ck) ks) := RK1.out.below b4
    have RS4 : Aside (Row encS 1 ((((w'.setCell ⟨q14, 0, none⟩ (.bool false)).setCell ⟨q14, 1, none⟩ (.slice none 0 0)).setCell ⟨q14, 2, none⟩ (.slice a5 n5 m5)).setCell ⟨q14, 3, none⟩ (.slice a12 n12 m12)) (.slice (some ⟨b, off, none⟩) ns cz) ss) := RS1.out.below b4
    have OA4 : Aside (OwnI (p + 3) ((((w'.setCell ⟨q14, 0, none⟩ (.bool false)).setCell ⟨q14, 1, none⟩ (.slice none 0 0)).setCell ⟨q14, 2, none⟩ (.slice a5 n5 m5)).setCell ⟨q14, 3, none⟩ (.slice a12 n12 m12)) (.slice a5 n5 m5) (ks.take n)) := by
      have h := ownSet4T (a := .bool false) (b := .slice none 0 0) (c := .slice a5 n5 m5) (d := .slice a12 n12 m12) o5 c14 (by decide)
      rw [XX.out] at h
      exact ownMono h (by omega)
    have OD4 : Aside (OwnS (p + 3) ((((w'.setCell ⟨q14, 0, none⟩ (.bool false)).setCell ⟨q14, 1, none⟩ (.slice none 0 0)).setCell ⟨q14, 2, none⟩ (.slice a5 n5 m5)).setCell ⟨q14, 3, none⟩ (.slice a12 n12 m12)) (.slice a12 n12 m12) (ss.take m)) := by
      have h := ownSet4T (a := .bool false) (b := .slice none 0 0) (c := .slice a5 n5 m5) (d := .slice a12 n12 m12) o12 c14 (by decide)
      rw [XY.out] at h
      exact ownMono h (by omega)
    clear o5 o12 hB b4 y0 y1 y2 y3 g0 g1 g2 g3 h0 h1 h2 h3 h4 h5 h6 h7 h8 h9 h10 h11 h12 h13 h14 c14 K1 K2 K3 B1 RK1 RS1 RX RY MK
    generalize (((w'.setCell ⟨q14, 0, none⟩ (.bool false)).setCell ⟨q14, 1, none⟩ (.slice none 0 0)).setCell ⟨q14, 2, none⟩ (.slice a5 n5 m5)).setCell ⟨q14, 3, none⟩ (.slice a12 n12 m12) = w2 at *
    obtain ⟨qA, aA, nA, mA, aD, nD, mD, ee⟩ : ∃ qA aA nA mA aD nD mD, (qA, aA, nA, mA, aD, nD, mD) = (q14, a5, n5, m5, a12, n12, m12) := ⟨_, _, _, _, _, _, _, rfl⟩
    simp only [Prod.mk.injEq] at ee
    obtain ⟨rfl, rfl, rfl, rfl, rfl, rfl, rfl⟩ := ee
    have lA : p + 3 ≤ qA := by omega
    have l2 := M6.lt
    have RU : Aside (Row encI 1 w2 (.slice af (nk - n) (ck - n)) u) := RU0'.out _ B4.out
    have RV : Aside (Row encS 1 w2 (.slice ag (ns - n) (cz - n)) v) := RV0'.out _ B4.out
    have MK : Hid (∀ X, Below w2.heap.size w2 X → X.cell? ⟨p, 0, none⟩ = some (.bool false) ∧ X.cell? ⟨p, 1, none⟩ = some (.slice ae ne ce) ∧ X.cell? ⟨p, 2, none⟩ = some (.slice ak nk ck) ∧ X.cell? ⟨p, 3, none⟩ = some (.slice (some ⟨b, off, none⟩) ns cz)) := fun X hX => (M1.on hX).four
    go_upto_region 10 with fail
    refine region_inv 14 (JSplB w2 p n nk ns ne ck cz ce ae ak af ag b off u v _ _ _ _ _ _ _ _ _ _ _ _ _ _ _ _ _ _ _ _ _ _ _ _ _ _ _ _ _ _ _ _ _ _ _ _ _ _ _ _ _ _ _ _ _ _ _ _ _ _ _ _ _ _ _ _ _ _ _ _ _ _ _ _ _ _ _ _ _ _ _ _ _ _ _ _ _ _ _ _ _) (by kernel_rfl) (by kernel_rfl) (by kernel_rfl) ⟨false, false, false, false, false, false, false, false, false, false, false, false, false, false, false, rfl, rfl, _, _, _, _, _, _, _, _, _, _, _, _, _, _, rfl, (Below.refl _ w2).drew, (fun h => by cases h), (fun h => by cases h), (fun h => by cases h), (fun h => by cases h), (fun h => by cases h), (fun h => by cases h), (fun h => by cases h), (fun h => by cases h), (fun h => by cases h), (fun h => by cases h), (fun h => by cases h), (fun h => by cases h), (fun h => by cases h), (fun h => by cases h)⟩ ?_ ?_ ?_
    · intro i f a w' hne hl hJ
      refine JSplB.elim hJ (C := fun f a w' => i ∈ Region.ready .any _ f.toArray → wpOp _ _ _ i (fun a' w'' => JSplB w2 p n nk ns ne ck cz ce ae ak af ag b off u v _ _ _ _ _ _ _ _ _ _ _ _ _ _ _ _ _ _ _ _ _ _ _ _ _ _ _ _ _ _ _ _ _ _ _ _ _ _ _ _ _ _ _ _ _ _ _ _ _ _ _ _ _ _ _ _ _ _ _ _ _ _ _ _ _ _ _ _ _ _ _ _ _ _ _ _ _ _ _ _ _ (f.set i true) a' w'') a w') ?_
      clear hJ hl f a
      intro f0 f1 f2 f3 f4 f5 f6 f7 f8 f9 f10 f11 f12 f13 f14 x10 x76 x77 x78 x79 x80 x81 x82 x83 x84 x85 x86 x87 x88 e14 hB h0 h1 h2 h3 h4 h5 h6 h7 h8 h9 h10 h11 h12 h13 hi
      obtain ⟨hlt, hun, _⟩ := ready_mem hi
      have hlt' : i < 15 := hlt
      clear hlt
      rcases (by omega : i = 0 ∨ i = 1 ∨ i = 2 ∨ i = 3 ∨ i = 4 ∨ i = 5 ∨ i = 6 ∨ i = 7 ∨ i = 8 ∨ i = 9 ∨ i = 10 ∨ i = 11 ∨ i = 12 ∨ i = 13) with rfl | rfl | rfl | rfl | rfl | rfl | rfl | rfl | rfl | rfl | rfl | rfl | rfl | rfl
      · have un : f0 = false := hun
        clear hun
        clear hi hne hlt'
        refine wpOp_step rfl (fun K hK => ?_)
        have HK : Shut _ := hK
        clear hK
        go_simp
        refine HK.out _ _ ?_
        exact ⟨true, f1, f2, f3, f4, f5, f6, f7, f8, f9, f10, f11, f12, f13, f14, rfl, e14, _, _, _, _, _, _, _, _, _, _, _, _, _, _, rfl, hB, (fun _ => rfl), h1, h2, h3, h4, h5, h6, h7, h8, h9, h10, h11, h12, h13⟩
      · have un : f1 = false := hun
        clear hun
        have d0 : f0 = true := ready_dep 0 hi (by kernel_rfl)
        have y0 := h0.out d0
        subst y0
        clear hi hne hlt'
        have cell := (MK.out _ hB).2.2.1
        refine wpOp_step rfl (fun K hK => ?_)
        have HK : Shut _ := hK
        clear hK
        go_simp
        refine HK.out _ _ ?_
        exact ⟨f0, true, f2, f3, f4, f5, f6, f7, f8, f9, f10, f11, f12, f13, f14, rfl, e14, _, _, _, _, _, _, _, _, _, _, _, _, _, _, rfl, hB, h0, (fun _ => rfl), h2, h3, h4, h5, h6, h7, h8, h9, h10, h11, h12, h13⟩
      · have un : f2 = false := hun
        clear hun
        clear hi hne hlt'
        refine wpOp_step rfl (fun K hK => ?_)
        have HK : Shut _ := hK
        clear hK
        go_simp
        refine HK.out _ _ ?_
        exact ⟨f0, f1, true, f3, f4, f5, f6, f7, f8, f9, f10, f11, f12, f13, f14, rfl, e14, _, _, _, _, _, _, _, _, _, _, _, _, _, _, rfl, hB, h0, h1, (fun _ => rfl), h3, h4, h5, h6, h7, h8, h9, h10, h11, h12, h13⟩
      · have un : f3 = false := hun
        clear hun
        have d1 : f1 = true := ready_dep 1 hi (by kernel_rfl)
        have y1 := h1.out d1
        subst y1
        have d2 : f2 = true := ready_dep 2 hi (by kernel_rfl)
        have y2 := h2.out d2
        subst y2
        clear hi hne hlt'
        refine wpOp_step rfl (fun K hK => ?_)
        have HK : Shut _ := hK
        clear hK
        go_simp
        refine HK.out _ _ ?_
        exact ⟨f0, f1, f2, true, f4, f5, f6, f7, f8, f9, f10, f11, f12, f13, f14, rfl, e14, _, _, _, _, _, _, _, _, _, _, _, _, _, _, rfl, hB, h0, h1, h2, (fun _ => rfl), h4, h5, h6, h7, h8, h9, h10, h11, h12, h13⟩
      · have un : f4 = false := hun
        clear hun
        have d3 : f3 = true := ready_dep 3 hi (by kernel_rfl)
        have y3 := h3.out d3
        subst y3
        clear hi hne hlt'
        refine wpOp_step rfl (fun K hK => ?_)
        have HK : Shut _ := hK
        clear hK
        go_simp
        refine HK.out _ _ ?_
        exact ⟨f0, f1, f2, f3, true, f5, f6, f7, f8, f9, f10, f11, f12, f13, f14, rfl, e14, _, _, _, _, _, _, _, _, _, _, _, _, _, _, rfl, belAlloc _ hB, h0, h1, h2, h3, (fun _ => ⟨_, rfl, Cl.new _ _ _⟩), (fun d => let ⟨ao, n, c, e, o⟩ := h5.out d; ⟨ao, n, c, e, ownsRow_below o (belAlloc _ (Below.refl _ _))⟩), h6, h7, h8, h9, (fun d => let ⟨q, e, c⟩ := h10.out d; ⟨q, e, Cl.on c (belAlloc _ (Below.refl _ _))⟩), (fun d => let ⟨ao, n, c, e, o⟩ := h11.out d; ⟨ao, n, c, e, ownsRow_below o (belAlloc _ (Below.refl _ _))⟩), h12, (fun d => let ⟨q, e, l, c⟩ := h13.out d; ⟨q, e, l, Cl.on c (belAlloc _ (Below.refl _ _))⟩)⟩
      · have un : f5 = false := hun
        clear hun
        have d4 : f4 = true := ready_dep 4 hi (by kernel_rfl)
        obtain ⟨q4, y4, c4⟩ := h4.out d4
        subst y4
        clear hi hne hlt'
        refine wpOp_step rfl (fun K hK => ?_)
        have HK : Shut _ := hK
        clear hK
        go_simp
        refine Calls.mono (joinedI1 q4 23 (.slice af (nk - n) (ck - n)) u w' c4 (RU.out.below hB) (by omega)) ?_
        rintro e w1 ⟨ao, nn, cc, rfl, ow, b1⟩
        refine HK.out _ _ ?_
        exact ⟨f0, f1, f2, f3, f4, true, f6, f7, f8, f9, f10, f11, f12, f13, f14, rfl, e14, _, _, _, _, _, _, _, _, _, _, _, _, _, _, rfl, belCall b1 hB, h0, h1, h2, h3, (fun d => let ⟨q, e, c⟩ := h4.out d; ⟨q, e, Cl.on c (b1)⟩), (fun _ => ⟨ao, nn, cc, rfl, ownMono ow hB.size⟩), h6, h7, h8, h9, (fun d => let ⟨q, e, c⟩ := h10.out d; ⟨q, e, Cl.on c (b1)⟩), (fun d => let ⟨ao, n, c, e, o⟩ := h11.out d; ⟨ao, n, c, e, ownsRow_below o (b1)⟩), (fun d => by have e := (h12.out d).1; rw [un] at e; cases e), (fun d => let ⟨q, e, l, c⟩ := h13.out d; ⟨q, e, l, Cl.on c (b1)⟩)⟩
      · have un : f6 = false := hun
        clear hun
        clear hi hne hlt'
        refine wpOp_step rfl (fun K hK => ?_)
        have HK : Shut _ := hK
        clear hK
        go_simp
        refine HK.out _ _ ?_
        exact ⟨f0, f1, f2, f3, f4, f5, true, f7, f8, f9, f10, f11, f12, f13, f14, rfl, e14, _, _, _, _, _, _, _, _, _, _, _, _, _, _, rfl, hB, h0, h1, h2, h3, h4, h5, (fun _ => rfl), h7, h8, h9, h10, h11, h12, h13⟩
      · have un : f7 = false := hun
        clear hun
        have d6 : f6 = true := ready_dep 6 hi (by kernel_rfl)
        have y6 := h6.out d6
        subst y6
        clear hi hne hlt'
        have cell := (MK.out _ hB).2.2.2
        refine wpOp_step rfl (fun K hK => ?_)
        have HK : Shut _ := hK
        clear hK
        go_simp
        refine HK.out _ _ ?_
        exact ⟨f0, f1, f2, f3, f4, f5, f6, true, f8, f9, f10, f11, f12, f13, f14, rfl, e14, _, _, _, _, _, _, _, _, _, _, _, _, _, _, rfl, hB, h0, h1, h2, h3, h4, h5, h6, (fun _ => rfl), h8, h9, h10, h11, h12, h13⟩
      · have un : f8 = false := hun
        clear hun
        clear hi hne hlt'
        refine wpOp_step rfl (fun K hK => ?_)
        have HK : Shut _ := hK
        clear hK
        go_simp
        refine HK.out _ _ ?_
        exact ⟨f0, f1, f2, f3, f4, f5, f6, f7, true, f9, f10, f11, f12, f13, f14, rfl, e14, _, _, _, _, _, _, _, _, _, _, _, _, _, _, rfl, hB, h0, h1, h2, h3, h4, h5, h6, h7, (fun _ => rfl), h9, h10, h11, h12, h13⟩
      · have un : f9 = false := hun
        clear hun
        have d7 : f7 = true := ready_dep 7 hi (by kernel_rfl)
        have y7 := h7.out d7
        subst y7
        have d8 : f8 = true := ready_dep 8 hi (by kernel_rfl)
        have y8 := h8.out d8
        subst y8
        clear hi hne hlt'
        refine wpOp_step rfl (fun K hK => ?_)
        have HK : Shut _ := hK
        clear hK
        go_simp
        refine HK.out _ _ ?_
        exact ⟨f0, f1, f2, f3, f4, f5, f6, f7, f8, true, f10, f11, f12, f13, f14, rfl, e14, _, _, _, _, _, _, _, _, _, _, _, _, _, _, rfl, hB, h0, h1, h2, h3, h4, h5, h6, h7, h8, (fun _ => rfl), h10, h11, h12, h13⟩
      · have un : f10 = false := hun
        clear hun
        have d9 : f9 = true := ready_dep 9 hi (by kernel_rfl)
        have y9 := h9.out d9
        subst y9
        clear hi hne hlt'
        refine wpOp_step rfl (fun K hK => ?_)
        have HK : Shut _ := hK
        clear hK
        go_simp
        refine HK.out _ _ ?_
        exact ⟨f0, f1, f2, f3, f4, f5, f6, f7, f8, f9, true, f11, f12, f13, f14, rfl, e14, _, _, _, _, _, _, _, _, _, _, _, _, _, _, rfl, belAlloc _ hB, h0, h1, h2, h3, (fun d => let ⟨q, e, c⟩ := h4.out d; ⟨q, e, Cl.on c (belAlloc _ (Below.refl _ _))⟩), (fun d => let ⟨ao, n, c, e, o⟩ := h5.out d; ⟨ao, n, c, e, ownsRow_below o (belAlloc _ (Below.refl _ _))⟩), h6, h7, h8, h9, (fun _ => ⟨_, rfl, Cl.new _ _ _⟩), (fun d => let ⟨ao, n, c, e, o⟩ := h11.out d; ⟨ao, n, c, e, ownsRow_below o (belAlloc _ (Below.refl _ _))⟩), h12, (fun d => let ⟨q, e, l, c⟩ := h13.out d; ⟨q, e, l, Cl.on c (belAlloc _ (Below.refl _ _))⟩)⟩
      · have un : f11 = false := hun
        clear hun
        have d10 : f10 = true := ready_dep 10 hi (by kernel_rfl)
        obtain ⟨q10, y10, c10⟩ := h10.out d10
        subst y10
        clear hi hne hlt'
        refine wpOp_step rfl (fun K hK => ?_)
        have HK : Shut _ := hK
        clear hK
        go_simp
        refine Calls.mono (joinedS1 q10 24 (.slice ag (ns - n) (cz - n)) v w' c10 (RV.out.below hB) (by omega)) ?_
        rintro e w1 ⟨ao, nn, cc, rfl, ow, b1⟩
        refine HK.out _ _ ?_
        exact ⟨f0, f1, f2, f3, f4, f5, f6, f7, f8, f9, f10, true, f12, f13, f14, rfl, e14, _, _, _, _, _, _, _, _, _, _, _, _, _, _, rfl, belCall b1 hB, h0, h1, h2, h3, (fun d => let ⟨q, e, c⟩ := h4.out d; ⟨q, e, Cl.on c (b1)⟩), (fun d => let ⟨ao, n, c, e, o⟩ := h5.out d; ⟨ao, n, c, e, ownsRow_below o (b1)⟩), h6, h7, h8, h9, (fun d => let ⟨q, e, c⟩ := h10.out d; ⟨q, e, Cl.on c (b1)⟩), (fun _ => ⟨ao, nn, cc, rfl, ownMono ow hB.size⟩), (fun d => by have e := (h12.out d).2.1; rw [un] at e; cases e), (fun d => let ⟨q, e, l, c⟩ := h13.out d; ⟨q, e, l, Cl.on c (b1)⟩)⟩
      · have un : f12 = false := hun
        clear hun
        have d5 : f5 = true := ready_dep 5 hi (by kernel_rfl)
        obtain ⟨a5, n5, m5, y5, o5⟩ := h5.out d5
        subst y5
        have d11 : f11 = true := ready_dep 11 hi (by kernel_rfl)
        obtain ⟨a11, n11, m11, y11, o11⟩ := h11.out d11
        subst y11
        clear hi hne hlt'
        refine wpOp_step rfl (fun K hK => ?_)
        have HK : Shut _ := hK
        clear hK
        go_simp
        refine HK.out _ _ ?_
        exact ⟨f0, f1, f2, f3, f4, f5, f6, f7, f8, f9, f10, f11, true, f13, f14, rfl, e14, _, _, _, _, _, _, _, _, _, _, _, _, _, _, rfl, hB, h0, h1, h2, h3, h4, h5, h6, h7, h8, h9, h10, h11, (fun _ => ⟨d5, d11, rfl⟩), h13⟩
      · have un : f13 = false := hun
        clear hun
        clear hi hne hlt'
        refine wpOp_step rfl (fun K hK => ?_)
        have HK : Shut _ := hK
        clear hK
        go_simp
        refine HK.out _ _ ?_
        exact ⟨f0, f1, f2, f3, f4, f5, f6, f7, f8, f9, f10, f11, f12, true, f14, rfl, e14, _, _, _, _, _, _, _, _, _, _, _, _, _, _, rfl, belAlloc _ hB, h0, h1, h2, h3, (fun d => let ⟨q, e, c⟩ := h4.out d; ⟨q, e, Cl.on c (belAlloc _ (Below.refl _ _))⟩), (fun d => let ⟨ao, n, c, e, o⟩ := h5.out d; ⟨ao, n, c, e, ownsRow_below o (belAlloc _ (Below.refl _ _))⟩), h6, h7, h8, h9, (fun d => let ⟨q, e, c⟩ := h10.out d; ⟨q, e, Cl.on c (belAlloc _ (Below.refl _ _))⟩), (fun d => let ⟨ao, n, c, e, o⟩ := h11.out d; ⟨ao, n, c, e, ownsRow_below o (belAlloc _ (Below.refl _ _))⟩), h12, (fun _ => ⟨_, rfl, hB.size, Cl.new _ _ _⟩)⟩
    · intro f a w' hl hJ
      refine JSplB.elim hJ (C := fun f a w' => 14 ∈ Region.ready .any _ f.toArray → wpOp _ _ _ 14 _ a w') ?_
      clear hJ hl f a
      intro f0 f1 f2 f3 f4 f5 f6 f7 f8 f9 f10 f11 f12 f13 f14 x10 x76 x77 x78 x79 x80 x81 x82 x83 x84 x85 x86 x87 x88 e14 hB h0 h1 h2 h3 h4 h5 h6 h7 h8 h9 h10 h11 h12 h13 hi
      have d12 : f12 = true := ready_dep 12 hi (by kernel_rfl)
      obtain ⟨_, _, y12⟩ := h12.out d12
      subst y12
      have d13 : f13 = true := ready_dep 13 hi (by kernel_rfl)
      obtain ⟨q13, y13, l13, c13⟩ := h13.out d13
      subst y13
      have d5 : f5 = true := ready_dep 5 hi (by kernel_rfl)
      obtain ⟨a5, n5, m5, y5, o5⟩ := h5.out d5
      subst y5
      have d11 : f11 = true := ready_dep 11 hi (by kernel_rfl)
      obtain ⟨a11, n11, m11, y11, o11⟩ := h11.out d11
      subst y11
      clear hi
      obtain ⟨y0, y1, y2, y3⟩ := c13.four
      obtain ⟨g0, g1, g2, g3⟩ := c13.thaw
      refine wpOp_step rfl (fun K hK => ?_)
      have HK : Shut _ := hK
      clear hK
      go_simp
      refine HK.out _ _ ?_
      have KB : Cl ((((w'.setCell ⟨q13, 0, none⟩ (.bool false)).setCell ⟨q13, 1, none⟩ (.slice none 0 0)).setCell ⟨q13, 2, none⟩ (.slice a5 n5 m5)).setCell ⟨q13, 3, none⟩ (.slice a11 n11 m11)) q13 #[.bool false, .slice none 0 0, .slice a5 n5 m5, .slice a11 n11 m11] 26 := c13.set4 _ _ _ _
      have b6 : Below w2.heap.size w2 ((((w'.setCell ⟨q13, 0, none⟩ (.bool false)).setCell ⟨q13, 1, none⟩ (.slice none 0 0)).setCell ⟨q13, 2, none⟩ (.slice a5 n5 m5)).setCell ⟨q13, 3, none⟩ (.slice a11 n11 m11)) := belSet4 hB l13
      have P1 : Cl ((((w'.setCell ⟨q13, 0, none⟩ (.bool false)).setCell ⟨q13, 1, none⟩ (.slice none 0 0)).setCell ⟨q13, 2, none⟩ (.slice a5 n5 m5)).setCell ⟨q13, 3, none⟩ (.slice a11 n11 m11)) p #[.bool false, .slice ae ne ce, .slice ak nk ck, .slice (some ⟨b, off, none⟩) ns cz] 26 := M1.on b6
      have P2 : Cl ((((w'.setCell ⟨q13, 0, none⟩ (.bool false)).setCell ⟨q13, 1, none⟩ (.slice none 0 0)).setCell ⟨q13, 2, none⟩ (.slice a5 n5 m5)).setCell ⟨q13, 3, none⟩ (.slice a11 n11 m11)) (p + 1) #[.bool false, .slice none 0 0, .slice none 0 0, .slice none 0 0] 26 := M2.on b6
      have P3 : Cl ((((w'.setCell ⟨q13, 0, none⟩ (.bool false)).setCell ⟨q13, 1, none⟩ (.slice none 0 0)).setCell ⟨q13, 2, none⟩ (.slice a5 n5 m5)).setCell ⟨q13, 3, none⟩ (.slice a11 n11 m11)) (p + 1 + 1) #[.bool false, .slice none 0 0, .slice none 0 0, .slice none 0 0] 26 := M3.on b6
      have P6 : Cl ((((w'.setCell ⟨q13, 0, none⟩ (.bool false)).setCell ⟨q13, 1, none⟩ (.slice none 0 0)).setCell ⟨q13, 2, none⟩ (.slice a5 n5 m5)).setCell ⟨q13, 3, none⟩ (.slice a11 n11 m11)) qA #[.bool false, .slice none 0 0, .slice aA nA mA, .slice aD nD mD] 26 := M6.on b6
      have B6 : Hid (Below p w ((((w'.setCell ⟨q13, 0, none⟩ (.bool false)).setCell ⟨q13, 1, none⟩ (.slice none 0 0)).setCell ⟨q13, 2, none⟩ (.slice a5 n5 m5)).setCell ⟨q13, 3, none⟩ (.slice a11 n11 m11))) := B4.out.trans (b6.mono (by omega))
      have R6 : Aside (Row encS 1 ((((w'.setCell ⟨q13, 0, none⟩ (.bool false)).setCell ⟨q13, 1, none⟩ (.slice none 0 0)).setCell ⟨q13, 2, none⟩ (.slice a5 n5 m5)).setCell ⟨q13, 3, none⟩ (.slice a11 n11 m11)) (.slice (some ⟨b, off, none⟩) ns cz) ss) := RS4.out.below b6
      have O1 : Aside (OwnI (p + 3) ((((w'.setCell ⟨q13, 0, none⟩ (.bool false)).setCell ⟨q13, 1, none⟩ (.slice none 0 0)).setCell ⟨q13, 2, none⟩ (.slice a5 n5 m5)).setCell ⟨q13, 3, none⟩ (.slice a11 n11 m11)) (.slice aA nA mA) (ks.take n)) := ownsRow_below OA4.out b6
      have O2 : Aside (OwnS (p + 3) ((((w'.setCell ⟨q13, 0, none⟩ (.bool false)).setCell ⟨q13, 1, none⟩ (.slice none 0 0)).setCell ⟨q13, 2, none⟩ (.slice a5 n5 m5)).setCell ⟨q13, 3, none⟩ (.slice a11 n11 m11)) (.slice aD nD mD) (ss.take m)) := ownsRow_below OD4.out b6
      have O3 : Aside (OwnI (p + 3) ((((w'.setCell ⟨q13, 0, none⟩ (.bool false)).setCell ⟨q13, 1, none⟩ (.slice none 0 0)).setCell ⟨q13, 2, none⟩ (.slice a5 n5 m5)).setCell ⟨q13, 3, none⟩ (.slice a11 n11 m11)) (.slice a5 n5 m5) (ks.drop n)) := by
        have h := ownSet4T (a := .bool false) (b := .slice none 0 0) (c := .slice a5 n5 m5) (d := .slice a11 n11 m11) o5 c13 (by decide)
        rw [XU.out] at h
        exact ownMono h (by omega)
      have O4 : Aside (OwnS (p + 3) ((((w'.setCell ⟨q13, 0, none⟩ (.bool false)).setCell ⟨q13, 1, none⟩ (.slice none 0 0)).setCell ⟨q13, 2, none⟩ (.slice a5 n5 m5)).setCell ⟨q13, 3, none⟩ (.slice a11 n11 m11)) (.slice a11 n11 m11) (ss.drop n)) := by
        have h := ownSet4T (a := .bool false) (b := .slice none 0 0) (c := .slice a5 n5 m5) (d := .slice a11 n11 m11) o11 c13 (by decide)
        rw [XV.out] at h
        exact ownMono h (by omega)
      clear o5 o11 hB b6 y0 y1 y2 y3 g0 g1 g2 g3 h0 h1 h2 h3 h4 h5 h6 h7 h8 h9 h10 h11 h12 h13 c13 M1 M2 M3 M6 B4 RS4 OA4 OD4 RU RV MK
      generalize (((w'.setCell ⟨q13, 0, none⟩ (.bool false)).setCell ⟨q13, 1, none⟩ (.slice none 0 0)).setCell ⟨q13, 2, none⟩ (.slice a5 n5 m5)).setCell ⟨q13, 3, none⟩ (.slice a11 n11 m11) = w6 at *
      obtain ⟨qB, aB, nB, mB, aC, nC, mC, ee⟩ : ∃ qB aB nB mB aC nC mC, (qB, aB, nB, mB, aC, nC, mC) = (q13, a5, n5, m5, a11, n11, m11) := ⟨_, _, _, _, _, _, _, rfl⟩
      simp only [Prod.mk.injEq] at ee
      obtain ⟨rfl, rfl, rfl, rfl, rfl, rfl, rfl⟩ := ee
      have P7 := KB
      have lB : p + 3 ≤ qB := by omega
      go_upto_region 11 with fail
      have mi0 : (0 : Int) ≤ (m : Int) := by omega
      have mi1 : (m : Int) < (ns : Int) := by omega
      obtain ⟨_, _, e9, _, x1⟩ := rowS_atR R6.out m (by have := HLS.out; omega)
      cases e9
      obtain ⟨mid, hmid⟩ : ∃ z, ss[m]! = z := ⟨_, rfl⟩
      rw [hmid] at x1
      have HM : Hid (ss[m]! = mid) := hmid
      clear hmid
      obtain ⟨c0, c1, c2, c3⟩ := P1.four
      obtain ⟨d0, d1, d2, d3⟩ := P2.four
      obtain ⟨e0, e1', e2', e3⟩ := P3.four
      obtain ⟨g0, g1, g2, g3⟩ := P2.thaw
      obtain ⟨i0, i1, i2, i3⟩ := P3.thaw
      obtain ⟨j0, j1, j2, j3⟩ := P6.four
      obtain ⟨k0, k1, k2, k3⟩ := P7.four
      have u1 : p ≠ p + 1 := by omega
      have u2 : p ≠ p + 1 + 1 := by omega
      have u3 : qA ≠ p + 1 := by omega
      have u4 : qA ≠ p + 1 + 1 := by omega
      have u5 : qB ≠ p + 1 := by omega
      have u6 : qB ≠ p + 1 + 1 := by omega
      have u7 : b ≠ p + 1 := by omega
      have u8 : b ≠ p + 1 + 1 := by omega
      have u9 : p + 1 ≠ p + 1 + 1 := by omega
      have v1 := u1.symm
      have v2 := u2.symm
      have v3 := u3.symm
      have v4 := u4.symm
      have v5 := u5.symm
      have v6 := u6.symm
      have v7 := u7.symm
      have v8 := u8.symm
      have v9 := u9.symm
      go_region_held3 (fun X => X.cell? ⟨p, 3, none⟩ = some (.slice (some ⟨b, off, none⟩) ns cz) ∧ X.cell? ⟨b, off + m, none⟩ = some (.string mid) ∧ X.cell? ⟨qA, 0, none⟩ = some (.bool false) ∧ X.cell? ⟨qA, 1, none⟩ = some (.slice none 0 0) ∧ X.cell? ⟨qA, 2, none⟩ = some (.slice aA nA mA) ∧ X.cell? ⟨qA, 3, none⟩ = some (.slice aD nD mD) ∧ X.cell? ⟨qB, 0, none⟩ = some (.bool false) ∧ X.cell? ⟨qB, 1, none⟩ = some (.slice none 0 0) ∧ X.cell? ⟨qB, 2, none⟩ = some (.slice aB nB mB) ∧ X.cell? ⟨qB, 3, none⟩ = some (.slice aC nC mC)) (go_keep) (fail)
      obtain ⟨KA, KB, BX, OX⟩ := fin2 P2 P3 (.bool false) (.slice none 0 0) (.slice aA nA mA) (.slice aD nD mD) (.bool false) (.slice none 0 0) (.slice aB nB mB) (.slice aC nC mC)
      generalize ((((((((w6.setCell ⟨p + 1, 0, none⟩ (.bool false)).setCell ⟨p + 1, 1, none⟩ (.slice none 0 0)).setCell ⟨p + 1, 2, none⟩ (.slice aA nA mA)).setCell ⟨p + 1, 3, none⟩ (.slice aD nD mD)).setCell ⟨p + 1 + 1, 0, none⟩ (.bool false)).setCell ⟨p + 1 + 1, 1, none⟩ (.slice none 0 0)).setCell ⟨p + 1 + 1, 2, none⟩ (.slice aB nB mB)).setCell ⟨p + 1 + 1, 3, none⟩ (.slice aC nC mC)).drew = X at *
      have BF : Hid (Below p w X) := BX w B6.out
      have OA : Hid (NdO p X (.slice none 0 0) (.slice aA nA mA) (.slice aD nD mD) ⟨false, [], ks.take n, ss.take m⟩) := ⟨OwnP.empty _ _, ownMono (OX _ _ _ _ _ O1.out) (by omega), ownMono (OX _ _ _ _ _ O2.out) (by omega)⟩
      have OB : Hid (NdO p X (.slice none 0 0) (.slice aB nB mB) (.slice aC nC mC) ⟨false, [], ks.drop n, ss.drop n⟩) := ⟨OwnP.empty _ _, ownMono (OX _ _ _ _ _ O3.out) (by omega), ownMono (OX _ _ _ _ _ O4.out) (by omega)⟩
      clear BX OX c0 c1 c2 c3 d0 d1 d2 d3 e0 e1' e2' e3 g0 g1 g2 g3 i0 i1 i2 i3 j0 j1 j2 j3 k0 k1 k2 k3 x1
      obtain ⟨t0, t1, t2, t3⟩ := KA.four
      obtain ⟨r0, r1, r2, r3⟩ := KB.four
      go_wp2
      (try simp only [Exit.inBlock, Exit.then])
      refine bodyPost_ret (v := .tuple #[.agg #[.bool false, .slice none 0 0, .slice aA nA mA, .slice aD nD mD], .string mid, .agg #[.bool false, .slice none 0 0, .slice aB nB mB, .slice aC nC mC]]) ?_ rfl ⟨_, _, _, _, _, _, by rw [HM.out], by rw [HP.out]; exact OA.out, by rw [HP.out]; exact OB.out, by rw [HP.out]; exact BF.out⟩
      rw [results_ctc rfl]
      go_simp
    · rintro f a w' ⟨f0, f1, f2, f3, f4, f5, f6, f7, f8, f9, f10, f11, f12, f13, f14, rfl, rfl, _⟩
      rfl
  · rintro f a w' ⟨f0, f1, f2, f3, f4, f5, f6, f7, f8, f9, f10, f11, f12, f13, f14, f15, rfl, rfl, _⟩
    rfl

set_option maxHeartbeats 4000000 in
set_option maxRecDepth 100000 in
theorem split_no1 (n : Nd) (ve vk vs : Value) (w : World) (h : NdR w ve vk vs n) (hm : Sm n) (lf : Bool) (hlf : n.leaf = lf) (rt : Bool) (hrt : rtN n = rt) (hrf : rt = false) :
    Calls Try.prog 22 #[.agg #[.bool n.leaf, ve, vk, vs]] w (GvS w n ⟨#[]⟩ nd0) := by
  obtain ⟨ae, ce, rfl, _⟩ := rowShape h.e
  obtain ⟨ak, ck, rfl, _⟩ := rowShape h.k
  obtain ⟨az, cz, rfl, _⟩ := rowShape h.s
  have CR0 : Hid (∀ W, Below w.heap.size w W → Calls Try.prog 13 #[.agg #[.bool n.leaf, .slice ae n.es.length ce, .slice ak n.ks.length ck, .slice az n.ss.length cz]] W fun e w' => e = .returned (.bool rt) ∧ Below W.heap.size W w') := fun W hW => by
    have := nright_any n _ _ _ W (h.below hW) hm
    rw [hrt] at this
    exact this
  have CA0 : Hid (∀ W, Below w.heap.size w W → Calls Try.prog 45 #[.agg #[.bool n.leaf, .slice ae n.es.length ce, .slice ak n.ks.length ck, .slice az n.ss.length cz]] W fun e w' => ∃ ve' vk' vs', e = .returned (.agg #[.bool n.leaf, ve', vk', vs']) ∧ NdO W.heap.size w' ve' vk' vs' n ∧ Below W.heap.size W w') := fun W hW => alone_any n _ _ _ W (h.below hW) hm.l
  rw [hlf] at CR0 CA0 ⊢
  have HL : Hid (n.leaf = lf) := hlf
  subst hrf
  generalize n.es.length = n1 at *
  generalize n.ks.length = n2 at *
  generalize n.ss.length = n3 at *
  clear hlf hrt h
  have BW : Hid (Below w.heap.size w (((w.alloc (.cells #[.bool lf, .slice ae n1 ce, .slice ak n2 ck, .slice az n3 cz] 26)).alloc (.cells #[.bool false, .slice none 0 0, .slice none 0 0, .slice none 0 0] 26)).alloc (.cells #[.bool false, .slice none 0 0, .slice none 0 0, .slice none 0 0] 26))) := belAlloc _ (belAlloc _ (belAlloc _ (Below.refl _ _)))
  have K1 : Cl (((w.alloc (.cells #[.bool lf, .slice ae n1 ce, .slice ak n2 ck, .slice az n3 cz] 26)).alloc (.cells #[.bool false, .slice none 0 0, .slice none 0 0, .slice none 0 0] 26)).alloc (.cells #[.bool false, .slice none 0 0, .slice none 0 0, .slice none 0 0] 26)) w.heap.size #[.bool lf, .slice ae n1 ce, .slice ak n2 ck, .slice az n3 cz] 26 := ((Cl.new0 _ _ _).alloc _).alloc _
  have K2 : Cl (((w.alloc (.cells #[.bool lf, .slice ae n1 ce, .slice ak n2 ck, .slice az n3 cz] 26)).alloc (.cells #[.bool false, .slice none 0 0, .slice none 0 0, .slice none 0 0] 26)).alloc (.cells #[.bool false, .slice none 0 0, .slice none 0 0, .slice none 0 0] 26)) (w.heap.size + 1) #[.bool false, .slice none 0 0, .slice none 0 0, .slice none 0 0] 26 := (Cl.new1 _ _ _ _).alloc _
  have K3 : Cl (((w.alloc (.cells #[.bool lf, .slice ae n1 ce, .slice ak n2 ck, .slice az n3 cz] 26)).alloc (.cells #[.bool false, .slice none 0 0, .slice none 0 0, .slice none 0 0] 26)).alloc (.cells #[.bool false, .slice none 0 0, .slice none 0 0, .slice none 0 0] 26)) (w.heap.size + 1 + 1) #[.bool false, .slice none 0 0, .slice none 0 0, .slice none 0 0] 26 := Cl.new2 _ _ _ _ _
  have CR : Hid _ := CR0.out _ BW.out
  go_enter Try.func22, Try.ntmps22
  go_upto_region 1 with fail
  generalize (((w.alloc (.cells #[.bool lf, .slice ae n1 ce, .slice ak n2 ck, .slice az n3 cz] 26)).alloc (.cells #[.bool false, .slice none 0 0, .slice none 0 0, .slice none 0 0] 26)).alloc (.cells #[.bool false, .slice none 0 0, .slice none 0 0, .slice none 0 0] 26)) = W at *
  obtain ⟨p, hp⟩ : ∃ p, w.heap.size = p := ⟨_, rfl⟩
  have HP : Hid (w.heap.size = p) := hp
  rw [hp] at K1 K2 K3 BW CA0 ⊢
  obtain ⟨c0, c1, c2, c3⟩ := K1.four
  clear hp CR0
  go_wp2_with fail
  refine Calls.mono CR.out ?_
  rintro e w1 ⟨rfl, b1⟩
  have J1 : Cl w1 p #[.bool lf, .slice ae n1 ce, .slice ak n2 ck, .slice az n3 cz] 26 := K1.on b1
  have J2 : Cl w1 (p + 1) #[.bool false, .slice none 0 0, .slice none 0 0, .slice none 0 0] 26 := K2.on b1
  have J3 : Cl w1 (p + 1 + 1) #[.bool false, .slice none 0 0, .slice none 0 0, .slice none 0 0] 26 := K3.on b1
  have B1 : Hid (Below p w w1) := BW.out.trans (b1.mono (by have := K1.lt; omega))
  have CA : Hid _ := CA0.out w1 B1.out
  clear b1 K1 K2 K3 CR BW c0 c1 c2 c3 CA0
  obtain ⟨c0, c1, c2, c3⟩ := J1.four
  go_wp2_with fail
  refine Calls.mono CA.out ?_
  rintro e w2 ⟨ve', vk', vs', rfl, O1, b2⟩
  obtain ⟨av, cv, rfl⟩ := ownShape O1.e
  obtain ⟨bv, dv, rfl⟩ := ownShape O1.k
  obtain ⟨gv, hv, rfl⟩ := ownShape O1.s
  have P2 : Cl w2 (p + 1) #[.bool false, .slice none 0 0, .slice none 0 0, .slice none 0 0] 26 := J2.on b2
  have P3 : Cl w2 (p + 1 + 1) #[.bool false, .slice none 0 0, .slice none 0 0, .slice none 0 0] 26 := J3.on b2
  have lj := J3.lt
  have B2 : Hid (Below p w w2) := B1.out.trans (b2.mono (by omega))
  have O2 : NdO (p + 3) w2 (.slice av n.es.length cv) (.slice bv n.ks.length dv) (.slice gv n.ss.length hv) n := O1.mono (by omega)
  obtain ⟨d0, d1, d2, d3⟩ := P2.four
  obtain ⟨e0, e1', e2', e3⟩ := P3.four
  obtain ⟨g0, g1, g2, g3⟩ := P2.thaw
  obtain ⟨i0, i1, i2, i3⟩ := P3.thaw
  obtain ⟨KA, KB, BX, OX⟩ := fin2 P2 P3 (.bool lf) (.slice av n.es.length cv) (.slice bv n.ks.length dv) (.slice gv n.ss.length hv) (.bool false) (.slice none 0 0) (.slice none 0 0) (.slice none 0 0)
  have KA' : Cl ((((((((w2.setCell ⟨p + 1, 0, none⟩ (.bool lf)).setCell ⟨p + 1, 1, none⟩ (.slice av n.es.length cv)).setCell ⟨p + 1, 2, none⟩ (.slice bv n.ks.length dv)).setCell ⟨p + 1, 3, none⟩ (.slice gv n.ss.length hv)).setCell ⟨p + 1 + 1, 0, none⟩ (.bool false)).setCell ⟨p + 1 + 1, 1, none⟩ (.slice none 0 0)).setCell ⟨p + 1 + 1, 2, none⟩ (.slice none 0 0)).setCell ⟨p + 1 + 1, 3, none⟩ (.slice none 0 0)) (p + 1) #[.bool lf, .slice av n.es.length cv, .slice bv n.ks.length dv, .slice gv n.ss.length hv] 26 := clUndr KA
  have KB' : Cl ((((((((w2.setCell ⟨p + 1, 0, none⟩ (.bool lf)).setCell ⟨p + 1, 1, none⟩ (.slice av n.es.length cv)).setCell ⟨p + 1, 2, none⟩ (.slice bv n.ks.length dv)).setCell ⟨p + 1, 3, none⟩ (.slice gv n.ss.length hv)).setCell ⟨p + 1 + 1, 0, none⟩ (.bool false)).setCell ⟨p + 1 + 1, 1, none⟩ (.slice none 0 0)).setCell ⟨p + 1 + 1, 2, none⟩ (.slice none 0 0)).setCell ⟨p + 1 + 1, 3, none⟩ (.slice none 0 0)) (p + 1 + 1) #[.bool false, .slice none 0 0, .slice none 0 0, .slice none 0 0] 26 := clUndr KB
  have BF : Hid (Below p w ((((((((w2.setCell ⟨p + 1, 0, none⟩ (.bool lf)).setCell ⟨p + 1, 1, none⟩ (.slice av n.es.length cv)).setCell ⟨p + 1, 2, none⟩ (.slice bv n.ks.length dv)).setCell ⟨p + 1, 3, none⟩ (.slice gv n.ss.length hv)).setCell ⟨p + 1 + 1, 0, none⟩ (.bool false)).setCell ⟨p + 1 + 1, 1, none⟩ (.slice none 0 0)).setCell ⟨p + 1 + 1, 2, none⟩ (.slice none 0 0)).setCell ⟨p + 1 + 1, 3, none⟩ (.slice none 0 0))) := belUndr (BX w B2.out)
  have OF : Hid (NdO p ((((((((w2.setCell ⟨p + 1, 0, none⟩ (.bool lf)).setCell ⟨p + 1, 1, none⟩ (.slice av n.es.length cv)).setCell ⟨p + 1, 2, none⟩ (.slice bv n.ks.length dv)).setCell ⟨p + 1, 3, none⟩ (.slice gv n.ss.length hv)).setCell ⟨p + 1 + 1, 0, none⟩ (.bool false)).setCell ⟨p + 1 + 1, 1, none⟩ (.slice none 0 0)).setCell ⟨p + 1 + 1, 2, none⟩ (.slice none 0 0)).setCell ⟨p + 1 + 1, 3, none⟩ (.slice none 0 0)) (.slice av n.es.length cv) (.slice bv n.ks.length dv) (.slice gv n.ss.length hv) n) := ⟨ownMono (ownUndr (OX _ _ _ _ _ O2.e)) (by omega), ownMono (ownUndr (OX _ _ _ _ _ O2.k)) (by omega), ownMono (ownUndr (OX _ _ _ _ _ O2.s)) (by omega)⟩
  have u9 : p + 1 ≠ p + 1 + 1 := by omega
  have v9 := u9.symm
  clear KA KB BX OX O1 O2 b2 CA B1 B2 c0 c1 c2 c3 J1 J2 J3 P2 P3
  go_wp2
  (try simp only [Exit.inBlock, Exit.then])
  generalize ((((((((w2.setCell ⟨p + 1, 0, none⟩ (.bool lf)).setCell ⟨p + 1, 1, none⟩ (.slice av n.es.length cv)).setCell ⟨p + 1, 2, none⟩ (.slice bv n.ks.length dv)).setCell ⟨p + 1, 3, none⟩ (.slice gv n.ss.length hv)).setCell ⟨p + 1 + 1, 0, none⟩ (.bool false)).setCell ⟨p + 1 + 1, 1, none⟩ (.slice none 0 0)).setCell ⟨p + 1 + 1, 2, none⟩ (.slice none 0 0)).setCell ⟨p + 1 + 1, 3, none⟩ (.slice none 0 0)) = X at *
  obtain ⟨t0, t1, t2, t3⟩ := KA'.four
  obtain ⟨r0, r1, r2, r3⟩ := KB'.four
  refine bodyPost_ret (v := .tuple #[.agg #[.bool lf, .slice av n.es.length cv, .slice bv n.ks.length dv, .slice gv n.ss.length hv], .string ⟨#[]⟩, .agg #[.bool false, .slice none 0 0, .slice none 0 0, .slice none 0 0]]) ?_ rfl ⟨_, _, _, _, _, _, by rw [HL.out]; rfl, by rw [HP.out]; exact OF.out, by rw [HP.out]; exact NdO.zero _ _, by rw [HP.out]; exact BF.out⟩
  rw [results_ctc rfl]
  go_simp

set_option maxHeartbeats 4000000 in
set_option maxRecDepth 100000 in
theorem split_no2 (n : Nd) (ve vk vs : Value) (w : World) (h : NdR w ve vk vs n) (hm : Sm n) (lf : Bool) (hlf : n.leaf = lf) (rt : Bool) (hrt : rtN n = rt) (hrf : rt = true) (h1 : n.es.length < 2) (h2 : n.ks.length < 2) :
    Calls Try.prog 22 #[.agg #[.bool n.leaf, ve, vk, vs]] w (GvS w n ⟨#[]⟩ nd0) := by
  obtain ⟨ae, ce, rfl, _⟩ := rowShape h.e
  obtain ⟨ak, ck, rfl, _⟩ := rowShape h.k
  obtain ⟨az, cz, rfl, _⟩ := rowShape h.s
  have CR0 : Hid (∀ W, Below w.heap.size w W → Calls Try.prog 13 #[.agg #[.bool n.leaf, .slice ae n.es.length ce, .slice ak n.ks.length ck, .slice az n.ss.length cz]] W fun e w' => e = .returned (.bool rt) ∧ Below W.heap.size W w') := fun W hW => by
    have := nright_any n _ _ _ W (h.below hW) hm
    rw [hrt] at this
    exact this
  have CA0 : Hid (∀ W, Below w.heap.size w W → Calls Try.prog 45 #[.agg #[.bool n.leaf, .slice ae n.es.length ce, .slice ak n.ks.length ck, .slice az n.ss.length cz]] W fun e w' => ∃ ve' vk' vs', e = .returned (.agg #[.bool n.leaf, ve', vk', vs']) ∧ NdO W.heap.size w' ve' vk' vs' n ∧ Below W.heap.size W w') := fun W hW => alone_any n _ _ _ W (h.below hW) hm.l
  rw [hlf] at CR0 CA0 ⊢
  have HL : Hid (n.leaf = lf) := hlf
  subst hrf
  have z1 : (n.es.length : Int) < 2 := by omega
  have z2 : (n.ks.length : Int) < 2 := by omega
  clear h1 h2
  generalize n.es.length = n1 at *
  generalize n.ks.length = n2 at *
  generalize n.ss.length = n3 at *
  clear hlf hrt h
  have BW : Hid (Below w.heap.size w (((w.alloc (.cells #[.bool lf, .slice ae n1 ce, .slice ak n2 ck, .slice az n3 cz] 26)).alloc (.cells #[.bool false, .slice none 0 0, .slice none 0 0, .slice none 0 0] 26)).alloc (.cells #[.bool false, .slice none 0 0, .slice none 0 0, .slice none 0 0] 26))) := belAlloc _ (belAlloc _ (belAlloc _ (Below.refl _ _)))
  have K1 : Cl (((w.alloc (.cells #[.bool lf, .slice ae n1 ce, .slice ak n2 ck, .slice az n3 cz] 26)).alloc (.cells #[.bool false, .slice none 0 0, .slice none 0 0, .slice none 0 0] 26)).alloc (.cells #[.bool false, .slice none 0 0, .slice none 0 0, .slice none 0 0] 26)) w.heap.size #[.bool lf, .slice ae n1 ce, .slice ak n2 ck, .slice az n3 cz] 26 := ((Cl.new0 _ _ _).alloc _).alloc _
  have K2 : Cl (((w.alloc (.cells #[.bool lf, .slice ae n1 ce, .slice ak n2 ck, .slice az n3 cz] 26)).alloc (.cells #[.bool false, .slice none 0 0, .slice none 0 0, .slice none 0 0] 26)).alloc (.cells #[.bool false, .slice none 0 0, .slice none 0 0, .slice none 0 0] 26)) (w.heap.size + 1) #[.bool false, .slice none 0 0, .slice none 0 0, .slice none 0 0] 26 := (Cl.new1 _ _ _ _).alloc _
  have K3 : Cl (((w.alloc (.cells #[.bool lf, .slice ae n1 ce, .slice ak n2 ck, .slice az n3 cz] 26)).alloc (.cells #[.bool false, .slice none 0 0, .slice none 0 0, .slice none 0 0] 26)).alloc (.cells #[.bool false, .slice none 0 0, .slice none 0 0, .slice none 0 0] 26)) (w.heap.size + 1 + 1) #[.bool false, .slice none 0 0, .slice none 0 0, .slice none 0 0] 26 := Cl.new2 _ _ _ _ _
  have CR : Hid _ := CR0.out _ BW.out
  go_enter Try.func22, Try.ntmps22
  go_upto_region 1 with fail
  generalize (((w.alloc (.cells #[.bool lf, .slice ae n1 ce, .slice ak n2 ck, .slice az n3 cz] 26)).alloc (.cells #[.bool false, .slice none 0 0, .slice none 0 0, .slice none 0 0] 26)).alloc (.cells #[.bool false, .slice none 0 0, .slice none 0 0, .slice none 0 0] 26)) = W at *
  obtain ⟨p, hp⟩ : ∃ p, w.heap.size = p := ⟨_, rfl⟩
  have HP : Hid (w.heap.size = p) := hp
  rw [hp] at K1 K2 K3 BW CA0 ⊢
  obtain ⟨c0, c1, c2, c3⟩ := K1.four
  clear hp CR0
  go_wp2_with fail
  refine Calls.mono CR.out ?_
  rintro e w1 ⟨rfl, b1⟩
  have J1 : Cl w1 p #[.bool lf, .slice ae n1 ce, .slice ak n2 ck, .slice az n3 cz] 26 := K1.on b1
  have J2 : Cl w1 (p + 1) #[.bool false, .slice none 0 0, .slice none 0 0, .slice none 0 0] 26 := K2.on b1
  have J3 : Cl w1 (p + 1 + 1) #[.bool false, .slice none 0 0, .slice none 0 0, .slice none 0 0] 26 := K3.on b1
  have B1 : Hid (Below p w w1) := BW.out.trans (b1.mono (by have := K1.lt; omega))
  have CA : Hid _ := CA0.out w1 B1.out
  clear b1 K1 K2 K3 CR BW c0 c1 c2 c3 CA0
  obtain ⟨c0, c1, c2, c3⟩ := J1.four
  go_wp2_with fail
  refine Calls.mono CA.out ?_
  rintro e w2 ⟨ve', vk', vs', rfl, O1, b2⟩
  obtain ⟨av, cv, rfl⟩ := ownShape O1.e
  obtain ⟨bv, dv, rfl⟩ := ownShape O1.k
  obtain ⟨gv, hv, rfl⟩ := ownShape O1.s
  have P2 : Cl w2 (p + 1) #[.bool false, .slice none 0 0, .slice none 0 0, .slice none 0 0] 26 := J2.on b2
  have P3 : Cl w2 (p + 1 + 1) #[.bool false, .slice none 0 0, .slice none 0 0, .slice none 0 0] 26 := J3.on b2
  have lj := J3.lt
  have B2 : Hid (Below p w w2) := B1.out.trans (b2.mono (by omega))
  have O2 : NdO (p + 3) w2 (.slice av n.es.length cv) (.slice bv n.ks.length dv) (.slice gv n.ss.length hv) n := O1.mono (by omega)
  obtain ⟨d0, d1, d2, d3⟩ := P2.four
  obtain ⟨e0, e1', e2', e3⟩ := P3.four
  obtain ⟨g0, g1, g2, g3⟩ := P2.thaw
  obtain ⟨i0, i1, i2, i3⟩ := P3.thaw
  obtain ⟨KA, KB, BX, OX⟩ := fin2 P2 P3 (.bool lf) (.slice av n.es.length cv) (.slice bv n.ks.length dv) (.slice gv n.ss.length hv) (.bool false) (.slice none 0 0) (.slice none 0 0) (.slice none 0 0)
  have KA' : Cl ((((((((w2.setCell ⟨p + 1, 0, none⟩ (.bool lf)).setCell ⟨p + 1, 1, none⟩ (.slice av n.es.length cv)).setCell ⟨p + 1, 2, none⟩ (.slice bv n.ks.length dv)).setCell ⟨p + 1, 3, none⟩ (.slice gv n.ss.length hv)).setCell ⟨p + 1 + 1, 0, none⟩ (.bool false)).setCell ⟨p + 1 + 1, 1, none⟩ (.slice none 0 0)).setCell ⟨p + 1 + 1, 2, none⟩ (.slice none 0 0)).setCell ⟨p + 1 + 1, 3, none⟩ (.slice none 0 0)) (p + 1) #[.bool lf, .slice av n.es.length cv, .slice bv n.ks.length dv, .slice gv n.ss.length hv] 26 := clUndr KA
  have KB' : Cl ((((((((w2.setCell ⟨p + 1, 0, none⟩ (.bool lf)).setCell ⟨p + 1, 1, none⟩ (.slice av n.es.length cv)).setCell ⟨p + 1, 2, none⟩ (.slice bv n.ks.length dv)).setCell ⟨p + 1, 3, none⟩ (.slice gv n.ss.length hv)).setCell ⟨p + 1 + 1, 0, none⟩ (.bool false)).setCell ⟨p + 1 + 1, 1, none⟩ (.slice none 0 0)).setCell ⟨p + 1 + 1, 2, none⟩ (.slice none 0 0)).setCell ⟨p + 1 + 1, 3, none⟩ (.slice none 0 0)) (p + 1 + 1) #[.bool false, .slice none 0 0, .slice none 0 0, .slice none 0 0] 26 := clUndr KB
  have BF : Hid (Below p w ((((((((w2.setCell ⟨p + 1, 0, none⟩ (.bool lf)).setCell ⟨p + 1, 1, none⟩ (.slice av n.es.length cv)).setCell ⟨p + 1, 2, none⟩ (.slice bv n.ks.length dv)).setCell ⟨p + 1, 3, none⟩ (.slice gv n.ss.length hv)).setCell ⟨p + 1 + 1, 0, none⟩ (.bool false)).setCell ⟨p + 1 + 1, 1, none⟩ (.slice none 0 0)).setCell ⟨p + 1 + 1, 2, none⟩ (.slice none 0 0)).setCell ⟨p + 1 + 1, 3, none⟩ (.slice none 0 0))) := belUndr (BX w B2.out)
  have OF : Hid (NdO p ((((((((w2.setCell ⟨p + 1, 0, none⟩ (.bool lf)).setCell ⟨p + 1, 1, none⟩ (.slice av n.es.length cv)).setCell ⟨p + 1, 2, none⟩ (.slice bv n.ks.length dv)).setCell ⟨p + 1, 3, none⟩ (.slice gv n.ss.length hv)).setCell ⟨p + 1 + 1, 0, none⟩ (.bool false)).setCell ⟨p + 1 + 1, 1, none⟩ (.slice none 0 0)).setCell ⟨p + 1 + 1, 2, none⟩ (.slice none 0 0)).setCell ⟨p + 1 + 1, 3, none⟩ (.slice none 0 0)) (.slice av n.es.length cv) (.slice bv n.ks.length dv) (.slice gv n.ss.length hv) n) := ⟨ownMono (ownUndr (OX _ _ _ _ _ O2.e)) (by omega), ownMono (ownUndr (OX _ _ _ _ _ O2.k)) (by omega), ownMono (ownUndr (OX _ _ _ _ _ O2.s)) (by omega)⟩
  have u9 : p + 1 ≠ p + 1 + 1 := by omega
  have v9 := u9.symm
  clear KA KB BX OX O1 O2 b2 CA B1 B2 c0 c1 c2 c3 J1 J2 J3 P2 P3
  go_wp2
  (try simp only [Exit.inBlock, Exit.then])
  generalize ((((((((w2.setCell ⟨p + 1, 0, none⟩ (.bool lf)).setCell ⟨p + 1, 1, none⟩ (.slice av n.es.length cv)).setCell ⟨p + 1, 2, none⟩ (.slice bv n.ks.length dv)).setCell ⟨p + 1, 3, none⟩ (.slice gv n.ss.length hv)).setCell ⟨p + 1 + 1, 0, none⟩ (.bool false)).setCell ⟨p + 1 + 1, 1, none⟩ (.slice none 0 0)).setCell ⟨p + 1 + 1, 2, none⟩ (.slice none 0 0)).setCell ⟨p + 1 + 1, 3, none⟩ (.slice none 0 0)) = X at *
  obtain ⟨t0, t1, t2, t3⟩ := KA'.four
  obtain ⟨r0, r1, r2, r3⟩ := KB'.four
  refine bodyPost_ret (v := .tuple #[.agg #[.bool lf, .slice av n.es.length cv, .slice bv n.ks.length dv, .slice gv n.ss.length hv], .string ⟨#[]⟩, .agg #[.bool false, .slice none 0 0, .slice none 0 0, .slice none 0 0]]) ?_ rfl ⟨_, _, _, _, _, _, by rw [HL.out]; rfl, by rw [HP.out]; exact OF.out, by rw [HP.out]; exact NdO.zero _ _, by rw [HP.out]; exact BF.out⟩
  rw [results_ctc rfl]
  go_simp

/-- What Split answers, whatever the node. -/
def sA (n : Nd) : Nd := if enN n = true then spA n else n
def sM (n : Nd) : ByteArray := if enN n = true then spM n else ⟨#[]⟩
def sB (n : Nd) : Nd := if enN n = true then spB n else nd0

theorem split_any (n : Nd) (ve vk vs : Value) (w : World) (h : NdR w ve vk vs n) (hm : Sm n) :
    Calls Try.prog 22 #[.agg #[.bool n.leaf, ve, vk, vs]] w (GvS w (sA n) (sM n) (sB n)) := by
  cases he : enN n with
  | false =>
    have e1 : sA n = n := by unfold sA; rw [he]; rfl
    have e2 : sM n = ⟨#[]⟩ := by unfold sM; rw [he]; rfl
    have e3 : sB n = nd0 := by unfold sB; rw [he]; rfl
    rw [e1, e2, e3]
    cases hr : rtN n with
    | false => exact split_no1 n ve vk vs w h hm _ rfl false hr rfl
    | true =>
      unfold enN at he
      rw [hr] at he
      simp only [Bool.true_and, Bool.or_eq_false_iff, decide_eq_false_iff_not] at he
      exact split_no2 n ve vk vs w h hm _ rfl true hr rfl (by omega) (by omega)
  | true =>
    have e1 : sA n = spA n := by unfold sA; rw [he]; rfl
    have e2 : sM n = spM n := by unfold sM; rw [he]; rfl
    have e3 : sB n = spB n := by unfold sB; rw [he]; rfl
    rw [e1, e2, e3]
    obtain ⟨lf, es, ks, ss⟩ := n
    cases lf with
    | true =>
      obtain ⟨a, b, _, _⟩ := enN_leaf he rfl
      simp only at a b
      subst a b
      exact split_leaf es ve vk vs w h hm he
    | false =>
      obtain ⟨_, h2, _⟩ := enN_inner he rfl
      simp only at h2
      obtain ⟨m, hm1⟩ : ∃ m, ks.length / 2 = m + 1 := ⟨ks.length / 2 - 1, by omega⟩
      have := split_inner es ks ss ve vk vs w h hm he (ks.length / 2) m rfl hm1
      have em : m = ks.length / 2 - 1 := by omega
      rw [em] at this
      exact this

end Go.Proofs.Ytmamnlphhiaeoaa

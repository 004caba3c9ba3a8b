/-
  The walk of package runs' Norm.
-/
import Derived.Test.YtoigljefajbofaaRnNorm
namespace Go.Proofs.Ytoigljefajbofaa
open Go.Shelf Go.RowKit Go.Lib Go.Sort

theorem Ris.drop {t : List Pr} (h : Ris t) (i : Nat) : Ris (t.drop i) := ⟨fun r hr => h.1 r (List.mem_of_mem_drop hr), h.2.sublist (List.drop_sublist i t)⟩

theorem nil_or_last (l : List Pr) : l = [] ∨ ∃ pre a b, l = pre ++ [(a, b)] := by
  rcases List.eq_nil_or_concat l with h | ⟨pre, ⟨a, b⟩, h⟩
  · exact Or.inl h
  · exact Or.inr ⟨pre, a, b, by rw [h, List.concat_eq_append]⟩

theorem OwnP.len {base : Nat} {W : World} {ao : Option Addr} {n c : Nat} {l : List Pr} (h : OwnP base W (.slice ao n c) l) : n = l.length := by
  rcases h.2 with ⟨e, e2⟩ | ⟨g, cap, cur, e, _⟩
  · cases e; exact e2.symm
  · cases e; rfl

theorem OwnP.mono {base base' : Nat} {W : World} {v : Value} {l : List Pr} (h : OwnP base W v l) (hb : base' ≤ base) : OwnP base' W v l := by
  refine ⟨h.1, ?_⟩
  rcases h.2 with h2 | ⟨g, cap, cur, hv, hg, r⟩
  · exact Or.inl h2
  · exact Or.inr ⟨g, cap, cur, hv, Nat.le_trans hb hg, r⟩

set_option maxHeartbeats 4000000 in
set_option maxRecDepth 100000 in
theorem norm_own (v : Value) (l : List Pr) (w : World) (h : Row encP 2 w v l) (hl : l.length ≤ 100000) :
    Calls Try.prog 11 #[v] w fun e w' => ∃ v', e = .returned v' ∧ OwnP w.heap.size w' v' (nmL l) ∧ Below w.heap.size w w' := by
  have C : Hid _ := rising_any v l w h hl
  clear h
  go_enter Try.func11, Try.ntmps11
  go_wp2_with (go_at_call 26; refine Calls.mono C.out ?_; rintro e w1 ⟨v1, t, rfl, ⟨ao, cap, rfl, h1, h2, h3⟩, hris, htl, hin, hb1⟩)
  have H3 : Aside (t ≠ [] → ∃ b off, ao = some ⟨b, off, none⟩ ∧ b < w1.heap.size ∧ CellsK encP 2 w1 b off t) := h3
  have B1 : Hid (Below w.heap.size w w1) := hb1
  have HR : Hid (Ris t) := hris
  have HI : Hid (∀ n, InR t n ↔ InR l n) := hin
  clear h3 hb1 hris hin C
  go_loopg [3, 10] t.length (fun kx s3 s10 wr => ∃ (i : Nat) (ao' : Option Addr) (n' c' : Nat) (set : List Pr), s3 = .slice ao' n' c' ∧ s10 = .int .i64 i ∧ i ≤ t.length ∧ t.length - i ≤ kx ∧ Aside (OwnP w1.heap.size wr (.slice ao' n' c') set) ∧ Hid (Below w1.heap.size w1 wr) ∧ Hid (NmSt (t.take i) (t.drop i) set))
  case atStart => exact ⟨0, none, 0, 0, [], rfl, rfl, Nat.zero_le _, Nat.le_refl _, OwnP.empty _ _, Below.refl _ _, NmSt.start t⟩
  case round =>
    obtain ⟨i, ao', n', c', set, rfl, rfl, hi, hki, HO, HB, HS⟩ := hrel
    have hsz : w1.heap.size ≤ wr.heap.size := HB.out.size
    by_cases hil : i < t.length
    · have hilz : (i : Int) < (t.length : Int) := by omega
      obtain ⟨b, off, rfl, hb, x1, x2⟩ := row_at H3.out i hil HB.out
      have TD : Hid (t.drop i = t[i]! :: t.drop (i + 1)) := drop_here hil
      have TT : Hid (t.take (i + 1) = t.take i ++ [t[i]!]) := take_next hil
      have XR : Hid (Ris (t[i]! :: t.drop (i + 1))) := by have := HR.out.drop i; rw [TD.out] at this; exact this
      obtain ⟨y1, y2, y3⟩ := XR.out.1 t[i]! (by simp)
      have hlen : set.length ≤ 100000 := by have := HS.out.len; simp at this; omega
      generalize t[i]! = x at *
      have S2 : Hid (NmSt (t.take i) (x :: t.drop (i + 1)) set) := by have := HS.out; rw [TD.out] at this; exact this
      clear HS TD
      rcases nil_or_last set with rfl | ⟨pre, a, b2, rfl⟩
      · have S3 : Hid (NmSt (t.take (i + 1)) (t.drop (i + 1)) ([] ++ [x])) := by show NmSt _ _ _; rw [TT.out]; exact S2.out.add XR.out (fun _ h => by simp at h)
        obtain rfl : n' = 0 := HO.out.len
        have hln : ([] : List Pr).length < 1000000 := by simp
        have O2 : Aside (OwnP w1.heap.size (wr.alloc (.cells #[.int .i64 x.1, .int .i64 x.2] 29)) (Value.slice ao' 0 c') []) := HO.out.alloc _
        have P2 : Hid (Cl (wr.alloc (.cells #[.int .i64 x.1, .int .i64 x.2] 29)) wr.heap.size #[.int .i64 x.1, .int .i64 x.2] 29) := Cl.new _ _ _
        have B2 : Hid (Below w1.heap.size w1 (wr.alloc (.cells #[.int .i64 x.1, .int .i64 x.2] 29))) := HB.out.alloc hsz _
        have NB : Hid ((Value.slice ao' 0 c').ownBlock ≠ some wr.heap.size) := HO.out.other (Nat.le_refl _)
        go_upto_region 6 with fail
        clear HO HB x1 x2
        generalize wr.alloc (.cells #[.int .i64 x.1, .int .i64 x.2] 29) = w2 at *
        generalize wr.heap.size = q at *
        have p0 := P2.out.two.1
        have p1 := P2.out.two.2
        have hs2 : w1.heap.size ≤ w2.heap.size := B2.out.size
        go_quiet (fail)
        have O3 : Aside (OwnP w1.heap.size (w2.drewN nq) (Value.slice ao' 0 c') []) := by have := ownsRow_grown O2.out nq #[]; rw [grow_empty] at this; exact this
        have B3 : Hid (Below w1.heap.size w1 (w2.drewN nq)) := by have := below_grown B2.out hs2 nq #[]; rw [grow_empty] at this; exact this
        have P3 : Hid (Cl (w2.drewN nq) q #[.int .i64 x.1, .int .i64 x.2] 29) := P2.out
        have p2 := P3.out.two.1
        have p3 := P3.out.two.2
        have hs3 : w1.heap.size ≤ (w2.drewN nq).heap.size := hs2
        clear p0 p1 O2 B2 P2
        generalize w2.drewN nq = w3 at *
        go_wp2_with (at_builtin; refine app_run rfl _ _ rfl w1.heap.size _ [] rfl (O3.out.alloc _) w3.heap.size 0 1 rfl x (by simp) (by simp) hln (by simp; omega) ?_)
        intro ao4 n4 c4 w4 HO4 HB4 _
        have O5 : Aside (OwnP w1.heap.size w4 (.slice ao4 n4 c4) ([] ++ [x])) := by show OwnP _ _ _ _; simpa using HO4
        have B5 : Hid (Below w1.heap.size w1 w4) := HB4 _ (B3.out.alloc hs3 _)
        clear HO4 HB4 O3 B3 P3
        go_wp2
        go_roundg (t.length - (i + 1))
        case measure => omega
        case rel => exact ⟨i + 1, ao4, n4, c4, _, rfl, by go_num, by omega, Nat.le_refl _, O5, B5, S3⟩
      · obtain ⟨g, cg, ev, hg, hglt, ca, cb, fb, hset⟩ := HO.out.setLast
        cases ev
        obtain ⟨c1, c2, c3⟩ := cn_snoc.1 S2.out.cn
        simp only at c3
        clear c1 c2 hset ca cb fb
        generalize hk : pre.length = k at *
        have O2 : Aside (OwnP w1.heap.size (wr.alloc (.cells #[.int .i64 x.1, .int .i64 x.2] 29)) (Value.slice (some ⟨g, 0, none⟩) (k + 1) c') (pre ++ [(a, b2)])) := HO.out.alloc _
        have P2 : Hid (Cl (wr.alloc (.cells #[.int .i64 x.1, .int .i64 x.2] 29)) wr.heap.size #[.int .i64 x.1, .int .i64 x.2] 29) := Cl.new _ _ _
        have B2 : Hid (Below w1.heap.size w1 (wr.alloc (.cells #[.int .i64 x.1, .int .i64 x.2] 29))) := HB.out.alloc hsz _
        have NB : Hid ((Value.slice (some ⟨g, 0, none⟩) (k + 1) c').ownBlock ≠ some wr.heap.size) := HO.out.other (Nat.le_refl _)
        go_upto_region 6 with fail
        clear HO HB x1 x2
        generalize wr.alloc (.cells #[.int .i64 x.1, .int .i64 x.2] 29) = w2 at *
        generalize wr.heap.size = q at *
        have p0 := P2.out.two.1
        have p1 := P2.out.two.2
        have hs2 : w1.heap.size ≤ w2.heap.size := B2.out.size
        obtain ⟨g', cg', ev, _, _, ca, cb, fb, hset⟩ := O2.out.setLast
        rw [hk] at ev ca cb fb hset
        cases ev
        have HSET : Hid _ := hset
        have hln : (pre ++ [(a, b2)]).length < 1000000 := by simp at hlen ⊢; omega
        have e1 : wrap64 (b2 + 1) = b2 + 1 := w64 (by omega) (by omega)
        have e2 : wrap64 (k : Int) = k := w64 (by omega) (by simp [hk] at hlen; omega)
        have cb2 : w2.cell? ⟨g, k * 2 + 1, none⟩ = some (.int .i64 b2) := cb
        clear hset
        by_cases hj : x.1 ≤ b2 + 1
        · have S3 : Hid (NmSt (t.take (i + 1)) (t.drop (i + 1)) (pre ++ [(a, max b2 x.2)])) := by show NmSt _ _ _; rw [TT.out]; exact S2.out.join XR.out hj
          go_quiet (fail)
          have O3 : Aside (OwnP w1.heap.size (w2.drewN nq).drew (Value.slice (some ⟨g, 0, none⟩) (k + 1) c') (pre ++ [(a, b2)])) := by have := ownsRow_grown O2.out (nq + 1) #[]; rw [grow_empty] at this; exact this
          have B3 : Hid (Below w1.heap.size w1 (w2.drewN nq).drew) := by have := below_grown B2.out hs2 (nq + 1) #[]; rw [grow_empty] at this; exact this
          obtain ⟨g3, cg3, ev3, hg3, _, da, db, fd, hset3⟩ := O3.out.setLast
          rw [hk] at ev3 da db fd hset3
          cases ev3
          have O4 : Aside (OwnP w1.heap.size ((w2.drewN nq).drew.setCell ⟨g, k * 2 + 1, none⟩ (.int .i64 (max b2 x.2))) (Value.slice (some ⟨g, 0, none⟩) (k + 1) c') (pre ++ [(a, max b2 x.2)])) := hset3 _
          have B4 : Hid (Below w1.heap.size w1 ((w2.drewN nq).drew.setCell ⟨g, k * 2 + 1, none⟩ (.int .i64 (max b2 x.2)))) := B3.out.setCell (p := ⟨g, k * 2 + 1, none⟩) hg _
          have p2 : (w2.drewN nq).cell? ⟨q, 0, none⟩ = some (.int .i64 x.1) := p0
          have p3 : (w2.drewN nq).cell? ⟨q, 1, none⟩ = some (.int .i64 x.2) := p1
          have cb3 : (w2.drewN nq).cell? ⟨g, k * 2 + 1, none⟩ = some (.int .i64 b2) := db
          have fb3 : (w2.drewN nq).frozen? ⟨g, k * 2 + 1, none⟩ = false := fd
          clear p0 p1 O2 B2 P2 O3 B3 hset3 da db fd cb2 ca cb fb HSET
          generalize w2.drewN nq = w3 at *
          go_wp2_with fail
          go_region
          all_goals go_wp2
          all_goals go_roundg (t.length - (i + 1))
          case measure => omega
          case rel => exact ⟨i + 1, _, _, c', _, rfl, by go_num, by omega, Nat.le_refl _, O4, B4, S3⟩
        · have S3 : Hid (NmSt (t.take (i + 1)) (t.drop (i + 1)) ((pre ++ [(a, b2)]) ++ [x])) := by show NmSt _ _ _; rw [TT.out]; exact S2.out.add XR.out (S2.out.cn.last_lt (by simp only; omega))
          go_quiet (fail)
          have O3 : Aside (OwnP w1.heap.size (w2.drewN nq) (Value.slice (some ⟨g, 0, none⟩) (k + 1) c') (pre ++ [(a, b2)])) := by have := ownsRow_grown O2.out nq #[]; rw [grow_empty] at this; exact this
          have B3 : Hid (Below w1.heap.size w1 (w2.drewN nq)) := by have := below_grown B2.out hs2 nq #[]; rw [grow_empty] at this; exact this
          have P3 : Hid (Cl (w2.drewN nq) q #[.int .i64 x.1, .int .i64 x.2] 29) := P2.out
          have p2 := P3.out.two.1
          have p3 := P3.out.two.2
          have hs3 : w1.heap.size ≤ (w2.drewN nq).heap.size := hs2
          clear p0 p1 cb2 O2 B2 P2
          generalize w2.drewN nq = w3 at *
          go_wp2_with (at_builtin; refine app_run rfl _ _ rfl w1.heap.size _ (pre ++ [(a, b2)]) rfl (O3.out.alloc _) w3.heap.size 0 1 rfl x (by simp) (by simp) hln (by simp; omega) ?_)
          intro ao4 n4 c4 w4 HO4 HB4 _
          have O5 : Aside (OwnP w1.heap.size w4 (.slice ao4 n4 c4) ((pre ++ [(a, b2)]) ++ [x])) := by show OwnP _ _ _ _; simpa using HO4
          have B5 : Hid (Below w1.heap.size w1 w4) := HB4 _ (B3.out.alloc hs3 _)
          clear HO4 HB4 O3 B3 P3
          go_wp2
          go_roundg (t.length - (i + 1))
          case measure => omega
          case rel => exact ⟨i + 1, ao4, n4, c4, _, rfl, by go_num, by omega, Nat.le_refl _, O5, B5, S3⟩
    · have hilz : ¬ (i : Int) < (t.length : Int) := by omega
      obtain rfl : i = t.length := by omega
      have E : Hid (set = nmL l) := eq_nmL HS.out.cn fun n => by
        have := HS.out.same n
        rw [List.take_length] at this
        rw [this, HI.out n]
      go_wp2
      go_ret
      refine ⟨_, rfl, ?_, B1.out.trans (HB.out.mono B1.out.size)⟩
      rw [← E.out]
      exact HO.out.mono B1.out.size

theorem norm_any (v : Value) (l : List Pr) (w : World) (h : Row encP 2 w v l) (hl : l.length ≤ 100000) :
    Calls Try.prog 11 #[v] w fun e w' => ∃ v', e = .returned v' ∧ Own encP 2 w.heap.size w' v' (nmL l) ∧ Below w.heap.size w w' :=
  (norm_own v l w h hl).mono fun _ _ ⟨v', e, o, b⟩ => ⟨v', e, o.own, b⟩

end Go.Proofs.Ytoigljefajbofaa

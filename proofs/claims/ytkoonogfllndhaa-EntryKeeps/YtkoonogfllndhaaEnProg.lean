/-
  The walks of package entry's splice, Get, Put and Delete.
-/
import Derived.Test.YtkoonogfllndhaaEnRight
namespace Go.Proofs.Ytkoonogfllndhaa
open Go.Shelf Go.RowKit Go.Lib Go.Sort

/-- A new row of entries is answered; nothing that was there has turned. -/
def Gv (w : World) (l : List En) (e : Ending) (w' : World) : Prop := ∃ v', e = .returned v' ∧ Own encP 2 w.heap.size w' v' l ∧ Below w.heap.size w w'

theorem enSlU : Try.prog.underlying 22 = some (.slice (Try.prog.elem 22)) := by kernel_rfl
theorem enSlZ (u : World) : (sizeOf (Try.prog.elem 22)).run Try.prog u = .ok 2 u := by kernel_rfl

theorem add0 (a : Addr) : a.add 0 = a := by
  cases a; simp [Addr.add]
theorem run_pre (ao : Option Addr) (n c k : Nat) (hk : k ≤ c) (u : World) : (Instr.slice 22 (.slice ao n c) none (some (.int .i64 (k : Int))) none).run Try.prog u = .ok (.slice ao k c) u := by
  rw [run_slice_h u 22 ao n c enSlU .i64 k (by omega) (by omega), enSlZ]
  simp only [Result.andThen, sliced, Int.toNat_natCast]
  cases ao <;> simp [add0]
theorem run_zero (ao : Option Addr) (n c : Nat) (u : World) : (Instr.slice 22 (.slice ao n c) none (some (.int .i64 0)) (some (.int .i64 0))).run Try.prog u = .ok (.slice ao 0 0) u := by
  rw [run_slice_hm u 22 ao n c enSlU .i64 .i64 0 0 (by omega) (by omega) (by omega), enSlZ]
  simp [Result.andThen, sliced]
theorem run_suf (ao : Option Addr) (n c k : Nat) (hk : k ≤ n) (u : World) : (Instr.slice 22 (.slice ao n c) (some (.int .i64 (k : Int))) none none).run Try.prog u = .ok (.slice (if c = k then ao else ao.map (·.add (k * 2))) (n - k) (c - k)) u := by
  rw [run_slice_l u 22 ao n c enSlU .i64 k (by omega) (by omega), enSlZ]
  simp [Result.andThen, sliced]

theorem Row.plain {w : World} {ao : Option Addr} {n c : Nat} {l : List En} (h : Row encP 2 w (.slice ao n c) l) (hne : l ≠ []) : ∃ g o, ao = some ⟨g, o, none⟩ := by
  obtain ⟨ao1, cap, e, h1, h2, h3⟩ := h
  cases e
  obtain ⟨b, off, e, _⟩ := h3 hne
  exact ⟨b, off, e⟩

theorem Row.pre {w : World} {ao : Option Addr} {n c : Nat} {l : List En} (h : Row encP 2 w (.slice ao n c) l) (k : Nat) (hk : k ≤ l.length) : Row encP 2 w (.slice ao k c) (l.take k) := by
  have e := h
  obtain ⟨ao1, cap, e1, h1, h2, h3⟩ := e
  cases e1
  have := h.part 0 k k (by omega) hk ao (fun b off e _ => by rw [e]; simp) c (by omega) h2
  simpa using this
theorem Row.suf {w : World} {ao : Option Addr} {n c : Nat} {l : List En} (h : Row encP 2 w (.slice ao n c) l) (k : Nat) (hk : k ≤ l.length) : Row encP 2 w (.slice (if c = k then ao else ao.map (·.add (k * 2))) (n - k) (c - k)) (l.drop k) := by
  have e := h
  obtain ⟨ao1, cap, e1, h1, h2, h3⟩ := e
  cases e1
  have := h.part k l.length (l.length - k) (by omega) (Nat.le_refl _) (if c = k then ao else ao.map (·.add (k * 2))) (fun b off e hm => by
    rw [if_neg (by omega), e]
    show some (Addr.add ⟨b, off, none⟩ (k * 2)) = _
    rw [Go.WideShapes.add_plain]) (c - k) (by omega) (fun e => by
    by_cases c1 : c = k
    · omega
    · rw [if_neg c1] at e
      have : ao = none := by cases ao with
        | none => rfl
        | some a => simp at e
      have := h2 this
      omega)
  rwa [List.take_of_length_le (by simp)] at this

theorem Row.to {w w' : World} {v : Value} {l : List En} {B : Nat} (h : Row encP 2 w v l) (hb : Below B w w') (hB : w.heap.size ≤ B) : Row encP 2 w' v l := h.below (hb.mono hB)

theorem Row.drewN {w : World} {v : Value} {l : List En} (h : Row encP 2 w v l) (n : Nat) : Row encP 2 (w.drewN n) v l := h.below ((GR.refl w).drewN n).below

set_option maxHeartbeats 2000000 in
set_option maxRecDepth 100000 in
theorem clone_empty (a : Addr) (c : Nat) (w : World) : Calls Try.prog 31 #[.slice (some a) 0 c] w (Gv w ([] : List En)) := by
  obtain ⟨i0, hi, hz0, hz1, hz2⟩ := info_parts infoPair
  have q22 : ∀ (w : World) (a : Option Addr) (n c n' c' : Nat), (binOp .eql 22 (.slice a n c) (.slice none n' c')).run Try.prog w = .ok (.bool a.isNone) w := fun w a n c n' c' => Lib.run_eql_slice_nil w _ _ a n c n' c' Try.underlying22
  go_enter Try.func31, Try.ntmps31
  go_wp2_with (at_builtin; refine wpList_append_own _ rfl _ _ 22 rfl w.heap.size 36 i0 _ 2 32 Try.underlying22 hi hz0 hz1 hz2 rfl (by decide) _ _ _ rfl (World.ownsRow_made w #[] 0 (Nat.le_refl _) (Nat.zero_le _) (by simp)) a 0 c [] rfl rfl (fun j u hj => by simp at hj) (fun u hu => by simp at hu) (by simp [maxLen]) (by simp) (by simp) ?_)
  intro v' w1 hown hgrow hnil
  go_wp2
  go_ret
  refine ⟨v', rfl, own_of_owns (n := 0) (by decide) (by simpa [flatK] using hown), ?_⟩
  exact ((Below.refl _ w).alloc (Nat.le_refl _) _).grown hgrow (by simp) (by intro k hk; simp [Value.ownBlock] at hk; omega)

theorem clone_any (v : Value) (l : List En) (w : World) (h : Row encP 2 w v l) (hl : l.length ≤ 1000000) : Calls Try.prog 31 #[v] w (Gv w l) := by
  obtain ⟨ao, cap, rfl, h1, h2, h3⟩ := h
  by_cases hne : l = []
  · subst hne
    cases ao with
    | none =>
      refine (AnyE.slices_Clone_nil Try.cloneEntry _ _ w).mono ?_
      rintro e w' ⟨rfl, rfl⟩
      exact ⟨_, rfl, Own.nil, Below.refl _ _⟩
    | some a => exact clone_empty a cap w
  · obtain ⟨b, off, rfl, hb, hc⟩ := h3 hne
    obtain ⟨i0, hi, hz0, hz1, hz2⟩ := info_parts infoPair
    refine (AnyE.slices_Clone Try.cloneEntry i0 _ 2 32 hi hz0 hz1 hz2 rfl (by decide) Try.sizeOf36 b off l.length cap (flatK encP 2 l.toArray).toList w (by simp) (by unfold maxLen; omega) (by omega) (fun j u hj => ?_) (flatK_oneCell encP_one encP_len)).mono ?_
    · obtain ⟨hj1, hj2⟩ := List.getElem?_eq_some_iff.1 hj
      have hj3 : j < l.length * 2 := by simpa using hj1
      rw [hc j hj3, getElem!_pos _ j (by simpa using hj3), ← hj2]
      simp
    · rintro e w' ⟨v', rfl, hown, _, hbel⟩
      exact ⟨v', rfl, own_of_owns (by decide) hown, hbel⟩

set_option maxHeartbeats 4000000 in
set_option maxRecDepth 100000 in
theorem splice_any (v vo : Value) (l m : List En) (i j : Nat) (w : World) (h : Row encP 2 w v l) (ho : Row encP 2 w vo m) (hij : i ≤ j) (hj : j ≤ l.length) (hl : l.length + l.length + m.length < 1000000) :
    Calls Try.prog 32 #[v, .int .i64 i, .int .i64 j, vo] w (Gv w (l.take i ++ m ++ l.drop j)) := by
  obtain ⟨ao, c, rfl, hc⟩ := h.shape
  obtain ⟨ao2, c2, rfl, hc2⟩ := ho.shape
  have P1 : Aside (Row encP 2 w (.slice ao i c) (l.take i)) := h.pre i (by omega)
  have P2 : Aside (Row encP 2 w (.slice ao2 m.length c2) m) := ho
  have P3 : Aside (Row encP 2 w _ (l.drop j)) := h.suf j hj
  have e0 := run_zero ao l.length c
  have e1 := run_pre ao l.length c i (by omega)
  have e2 := run_suf ao l.length c j hj
  generalize (if c = j then ao else ao.map (·.add (j * 2))) = ao3 at e2 P3
  have t1 : (l.take i).length = i := by simp; omega
  have t3 : (l.drop j).length = l.length - j := by simp
  have D1 : Aside (Row encP 2 w.drew (.slice ao i c) (l.take i)) := P1.out.below (Below.refl _ w).drew
  have Z0 : Aside (OwnZ w.heap.size w.drew (.slice ao 0 0) []) := OwnZ.empty _ _ _
  generalize l.take i = x at *
  generalize l.drop j = y at *
  obtain ⟨xm, hxm⟩ : ∃ xm, x ++ m = xm := ⟨_, rfl⟩
  have lxm : xm.length = i + m.length := by rw [← hxm, List.length_append, t1]
  rw [hxm]
  obtain ⟨tot, htot⟩ : ∃ tot, xm ++ y = tot := ⟨_, rfl⟩
  rw [htot]
  have XM : Hid (x ++ m = xm) := hxm
  have TOT : Hid (xm ++ y = tot) := htot
  clear h ho P1 hxm htot
  go_enter Try.func32, Try.ntmps32
  go_wp2_with fail
  go_region_held3 (fun _ => True) (trivial) ((refine step_z rfl _ _ rfl w.heap.size _ [] rfl Z0.out _ x rfl D1.out (by simp; omega) (Nat.le_refl _) x (by simp) ?_; intro a1 n1 c1 w1 O1 B1))
  have O1' : Aside (OwnZ w.heap.size w1 (.slice a1 n1 c1) x) := O1
  have B1' : Hid (Below w.heap.size w w1) := B1 _ (Below.refl _ w).drew
  have R1 : Aside (Row encP 2 w1 (.slice ao2 m.length c2) m) := P2.out.below B1'.out
  have s1 := B1'.out.size
  clear O1 B1 P2 Z0 D1 e0 e1
  go_wp2_with (at_builtin; refine app_z rfl _ _ rfl w.heap.size _ x rfl O1'.out _ m rfl R1.out (by omega) s1 xm XM.out ?_)
  intro a2 n2 c3 w2 O2 B2
  have O2' : Aside (OwnZ w.heap.size w2 (.slice a2 n2 c3) xm) := O2
  have B2' : Hid (Below w.heap.size w w2) := B2 _ B1'.out
  have R2 : Aside (Row encP 2 w2 (.slice ao3 (l.length - j) (c - j)) y) := P3.out.below B2'.out
  have s2 := B2'.out.size
  clear O2 B2 O1' R1 P3
  go_wp2_with (at_builtin; refine app_z rfl _ _ rfl w.heap.size _ xm rfl O2'.out _ y rfl R2.out (by omega) s2 tot TOT.out ?_)
  intro a4 n4 c4 w4 O4 B4
  have O4' : Aside (OwnZ w.heap.size w4 (.slice a4 n4 c4) tot) := O4
  have B4' : Hid (Below w.heap.size w w4) := B4 _ B2'.out
  clear O4 B4 O2' R2 e2
  go_wp2
  go_ret
  exact ⟨_, rfl, O4'.out.own, B4'.out⟩

/-- What Get answers. -/
def geV (l : List En) (k : ByteArray) : ByteArray := if rgB l = true then gtV l k else ⟨#[]⟩
def geB (l : List En) (k : ByteArray) : Bool := rgB l && fdB l k
/-- What Put and Delete answer. -/
def puL (l : List En) (k v : ByteArray) : List En := if (mayB k v && rgB l) = true then ptL l k v else l
def deE (l : List En) (k : ByteArray) : List En := if rgB l = true then dlL l k else l

theorem geV_no {l : List En} {k : ByteArray} {i : Nat} {f : Bool} (hf : Fnd l k i f) (h : f = false ∨ rgB l = false) : geV l k = ⟨#[]⟩ ∧ geB l k = false := by
  unfold geV geB
  cases hr : rgB l
  · exact ⟨rfl, rfl⟩
  · have h2 := (hf.2.2 (rg_of hr)).2
    rcases h with h | h
    · rw [h] at h2
      rw [← h2, gtV_no h2.symm]
      exact ⟨rfl, rfl⟩
    · rw [hr] at h; cases h
theorem geV_yes {l : List En} {k : ByteArray} {i : Nat} (hf : Fnd l k i true) (hr : rgB l = true) : geV l k = l[i]!.2 ∧ geB l k = true := by
  obtain ⟨h1, h2⟩ := hf.2.2 (rg_of hr)
  unfold geV geB
  rw [hr, if_pos rfl, gtV_at (rg_of hr) h2.symm, ← h1, ← h2]
  exact ⟨rfl, rfl⟩

set_option maxHeartbeats 2000000 in
set_option maxRecDepth 100000 in
theorem get_any (v : Value) (l : List En) (k : ByteArray) (w : World) (h : Row encP 2 w v l) (hl : l.length ≤ 1000000) :
    Calls Try.prog 14 #[v, .string k] w fun e w' => e = .returned (.tuple #[.string (geV l k), .bool (geB l k)]) ∧ Below w.heap.size w w' := by
  have C : Hid _ := find_any v l k w h hl
  have H : Aside (Row encP 2 w v l) := h
  obtain ⟨ao, c, rfl, _⟩ := h.shape
  clear h
  go_enter Try.func14, Try.ntmps14
  go_upto_region 2 with (go_at_call 20; refine Calls.mono C.out ?_; rintro e w1 ⟨i, f, rfl, hf, hb⟩)
  have FN : Hid (Fnd l k i f) := hf
  have hil : f = true → i < l.length := hf.2.1
  have B1 : Hid (Below w.heap.size w w1) := hb
  clear hf hb C
  cases f with
  | false =>
    obtain ⟨e1, e2⟩ := geV_no FN.out (Or.inl rfl)
    have E1 : Hid (geV l k = ⟨#[]⟩) := e1
    have E2 : Hid (geB l k = false) := e2
    clear e1 e2 FN hil
    go_wp2
    go_ret2
    exact ⟨by rw [E1.out, E2.out]; rfl, B1.out⟩
  | true =>
    have C2 : Hid _ := right_any _ l w1 (H.out.below B1.out) hl
    have hi := hil rfl
    cases hr : rgB l with
    | false =>
      obtain ⟨e1, e2⟩ := geV_no FN.out (Or.inr hr)
      have E1 : Hid (geV l k = ⟨#[]⟩) := e1
      have E2 : Hid (geB l k = false) := e2
      rw [hr] at C2
      clear e1 e2 FN hil hr
      go_wp2_with (go_at_call 30; refine Calls.mono C2.out ?_; rintro e w2 ⟨rfl, hb2⟩)
      go_ret2
      exact ⟨by rw [E1.out, E2.out]; rfl, B1.out.trans (hb2.mono B1.out.size)⟩
    | true =>
      obtain ⟨e1, e2⟩ := geV_yes FN.out hr
      have E1 : Hid (geV l k = l[i]!.2) := e1
      have E2 : Hid (geB l k = true) := e2
      rw [hr] at C2
      clear e1 e2 FN hil hr
      go_upto_region 4 with (go_at_call 30; refine Calls.mono C2.out ?_; rintro e w2 ⟨rfl, hb2⟩)
      have B2 : Hid (Below w.heap.size w w2) := B1.out.trans (hb2.mono B1.out.size)
      obtain ⟨ao1, c1, e3, h1, h2, h3⟩ := H.out
      cases e3
      obtain ⟨b, off, rfl, hbb, x1, x2⟩ := row_at h3 i hi B2.out
      clear h3 hb2 H
      generalize l[i]! = x at *
      go_wp2
      go_ret2
      exact ⟨by rw [E1.out, E2.out]; rfl, B2.out⟩

theorem puL_no {l : List En} {k v : ByteArray} (h : mayB k v = false ∨ rgB l = false) : puL l k v = l := by
  unfold puL
  rcases h with h | h <;> simp [h]
theorem puL_yes {l : List En} {k v : ByteArray} {i : Nat} {f : Bool} (hf : Fnd l k i f) (hm : mayB k v = true) (hr : rgB l = true) (j : Nat) (hj : j = if f = true then i + 1 else i) : l.take i ++ [(k, v)] ++ l.drop j = puL l k v := by
  obtain ⟨h1, h2⟩ := hf.2.2 (rg_of hr)
  unfold puL
  rw [hm, hr, Bool.and_self, if_pos rfl, h1]
  refine ptL_cut (rg_of hr) hm ?_
  rw [hj, h1, h2]

set_option maxHeartbeats 2000000 in
set_option maxRecDepth 100000 in
theorem eput_any (vl : Value) (l : List En) (k v : ByteArray) (w : World) (h : Row encP 2 w vl l) (hl : l.length ≤ 400000) :
    Calls Try.prog 16 #[vl, .string k, .string v] w (Gv w (puL l k v)) := by
  have H : Aside (Row encP 2 w vl l) := h
  obtain ⟨ao, c, rfl, hc⟩ := h.shape
  have CK : Hid _ := check_any k v w
  cases hm : mayB k v with
  | false =>
    rw [puL_no (Or.inl hm)]
    rw [chkE_of, hm] at CK
    have C : Hid _ := clone_any _ l w h (by omega)
    clear h hm
    go_enter Try.func16, Try.ntmps16
    go_wp2_with (first | (go_at_call 13; refine Calls.mono CK.out ?_; rintro e w1 ⟨rfl, rfl⟩) | (go_at_call 31; refine Calls.mono C.out ?_; rintro e w1 ⟨v1, rfl, ho, hb⟩))
    go_ret
    exact ⟨_, rfl, ho, hb⟩
  | true =>
    rw [chkE_of, hm] at CK
    have CR : Hid _ := right_any _ l w h (by omega)
    clear h
    cases hr : rgB l with
    | false =>
      rw [puL_no (Or.inr hr)]
      rw [hr] at CR
      clear hm hr
      go_enter Try.func16, Try.ntmps16
      go_upto_region 2 with (first | (go_at_call 13; refine Calls.mono CK.out ?_; rintro e w1 ⟨rfl, rfl⟩) | (go_at_call 30; refine Calls.mono CR.out ?_; rintro e w1 ⟨rfl, hb⟩))
      have B1 : Hid (Below w.heap.size w w1) := hb
      have C : Hid _ := clone_any _ l w1 (H.out.below hb) (by omega)
      clear hb CK CR
      go_wp2_with (go_at_call 31; refine Calls.mono C.out ?_; rintro e w2 ⟨v2, rfl, ho, hb⟩)
      go_ret
      exact ⟨_, rfl, ho.mono B1.out.size, B1.out.trans (hb.mono B1.out.size)⟩
    | true =>
      rw [hr] at CR
      have M : Hid (mayB k v = true) := hm
      have RG : Hid (rgB l = true) := hr
      clear hm hr
      go_enter Try.func16, Try.ntmps16
      go_upto_region 3 with (first | (go_at_call 13; refine Calls.mono CK.out ?_; rintro e w1 ⟨rfl, rfl⟩) | (go_at_call 30; refine Calls.mono CR.out ?_; rintro e w1 ⟨rfl, hb⟩))
      have B1 : Hid (Below w.heap.size w w1) := hb
      have C : Hid _ := find_any _ l k w1 (H.out.below hb) (by omega)
      clear hb CK CR
      go_upto_region 5 with (go_at_call 20; refine Calls.mono C.out ?_; rintro e w2 ⟨i, f, rfl, hf, hb2⟩)
      have B2 : Hid (Below w.heap.size w w2) := B1.out.trans (hb2.mono B1.out.size)
      have hil := hf.1
      have hil2 := hf.2.1
      have FN : Hid (Fnd l k i f) := hf
      clear hb2 hf C B1
      have B3 : Hid (Below w.heap.size w (w2.alloc (.cells #[.string k, .string v] 36))) := B2.out.alloc B2.out.size _
      have RO : Hid (Row encP 2 (w2.alloc (.cells #[.string k, .string v] 36)) (.slice (some ⟨w2.heap.size, 0, none⟩) 1 1) [(k, v)]) := (Cl.new w2 #[.string k, .string v] 36).row
      have RL : Hid (Row encP 2 (w2.alloc (.cells #[.string k, .string v] 36)) (.slice ao l.length c) l) := H.out.below B3.out
      cases f with
      | false =>
        have E := puL_yes FN.out M.out RG.out i rfl
        have S : Hid _ := splice_any _ _ l [(k, v)] i i _ RL.out RO.out (Nat.le_refl _) hil (by simp; omega)
        rw [E] at S
        clear E RL RO H
        go_wp2_with (go_at_call 32; refine Calls.mono S.out ?_; rintro e w4 ⟨v4, rfl, ho, hb⟩)
        go_ret
        exact ⟨_, rfl, ho.mono B3.out.size, B3.out.trans (hb.mono B3.out.size)⟩
      | true =>
        have hi := hil2 rfl
        have E := puL_yes FN.out M.out RG.out (i + 1) rfl
        have S : Hid _ := splice_any _ _ l [(k, v)] i (i + 1) _ RL.out RO.out (Nat.le_succ _) hi (by simp; omega)
        rw [E] at S
        clear E RL RO H
        go_wp2_with (go_at_call 32; refine Calls.mono S.out ?_; rintro e w4 ⟨v4, rfl, ho, hb⟩)
        go_ret
        exact ⟨_, rfl, ho.mono B3.out.size, B3.out.trans (hb.mono B3.out.size)⟩

theorem deE_no {l : List En} {k : ByteArray} {i : Nat} {f : Bool} (hf : Fnd l k i f) (h : f = false ∨ rgB l = false) : deE l k = l := by
  unfold deE
  cases hr : rgB l
  · rfl
  · have h2 := (hf.2.2 (rg_of hr)).2
    rcases h with h | h
    · rw [h] at h2
      rw [if_pos rfl, dlL_none h2.symm]
    · rw [hr] at h; cases h
theorem deE_yes {l : List En} {k : ByteArray} {i : Nat} (hf : Fnd l k i true) (hr : rgB l = true) : l.take i ++ [] ++ l.drop (i + 1) = deE l k := by
  obtain ⟨h1, h2⟩ := hf.2.2 (rg_of hr)
  unfold deE
  rw [hr, if_pos rfl, List.append_nil, h1, dlL_cut (rg_of hr) h2.symm]

set_option maxHeartbeats 2000000 in
set_option maxRecDepth 100000 in
theorem delete_any (vl : Value) (l : List En) (k : ByteArray) (w : World) (h : Row encP 2 w vl l) (hl : l.length ≤ 400000) :
    Calls Try.prog 17 #[vl, .string k] w (Gv w (deE l k)) := by
  have H : Aside (Row encP 2 w vl l) := h
  obtain ⟨ao, c, rfl, hc⟩ := h.shape
  have C : Hid _ := find_any _ l k w h (by omega)
  clear h
  go_enter Try.func17, Try.ntmps17
  go_upto_region 2 with (go_at_call 20; refine Calls.mono C.out ?_; rintro e w1 ⟨i, f, rfl, hf, hb⟩)
  have FN : Hid (Fnd l k i f) := hf
  have hil : f = true → i < l.length := hf.2.1
  have B1 : Hid (Below w.heap.size w w1) := hb
  clear hf hb C
  cases f with
  | false =>
    have E : Hid (deE l k = l) := deE_no FN.out (Or.inl rfl)
    have C : Hid _ := clone_any _ l w1 (H.out.below B1.out) (by omega)
    clear FN hil
    go_wp2_with (go_at_call 31; refine Calls.mono C.out ?_; rintro e w2 ⟨v2, rfl, ho, hb⟩)
    go_ret
    exact ⟨_, rfl, by rw [E.out]; exact ho.mono B1.out.size, B1.out.trans (hb.mono B1.out.size)⟩
  | true =>
    have C2 : Hid _ := right_any _ l w1 (H.out.below B1.out) (by omega)
    have hi := hil rfl
    cases hr : rgB l with
    | false =>
      have E : Hid (deE l k = l) := deE_no FN.out (Or.inr hr)
      rw [hr] at C2
      clear FN hil hr
      go_upto_region 3 with (go_at_call 30; refine Calls.mono C2.out ?_; rintro e w2 ⟨rfl, hb2⟩)
      have B2 : Hid (Below w.heap.size w w2) := B1.out.trans (hb2.mono B1.out.size)
      have C : Hid _ := clone_any _ l w2 (H.out.below B2.out) (by omega)
      clear hb2 C2 B1
      go_wp2_with (go_at_call 31; refine Calls.mono C.out ?_; rintro e w3 ⟨v3, rfl, ho, hb⟩)
      go_ret
      exact ⟨_, rfl, by rw [E.out]; exact ho.mono B2.out.size, B2.out.trans (hb.mono B2.out.size)⟩
    | true =>
      have E := deE_yes FN.out hr
      rw [hr] at C2
      clear FN hil hr
      go_upto_region 4 with (go_at_call 30; refine Calls.mono C2.out ?_; rintro e w2 ⟨rfl, hb2⟩)
      have B2 : Hid (Below w.heap.size w w2) := B1.out.trans (hb2.mono B1.out.size)
      have S : Hid _ := splice_any _ (.slice none 0 0) l [] i (i + 1) w2 (H.out.below B2.out) (Own.nil (base := 0)).row (Nat.le_succ _) hi (by simp; omega)
      rw [E] at S
      clear E hb2 C2 B1 H
      go_wp2_with (go_at_call 32; refine Calls.mono S.out ?_; rintro e w3 ⟨v3, rfl, ho, hb⟩)
      go_ret
      exact ⟨_, rfl, ho.mono B2.out.size, B2.out.trans (hb.mono B2.out.size)⟩

end Go.Proofs.Ytkoonogfllndhaa

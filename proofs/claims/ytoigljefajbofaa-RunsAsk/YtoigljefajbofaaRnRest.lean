/-
  The walk of package runs' rest.
-/
import Derived.Test.YtoigljefajbofaaRnPut
namespace Go.Proofs.Ytoigljefajbofaa
open Go.Shelf Go.RowKit Go.Lib Go.Sort

set_option maxHeartbeats 4000000 in
set_option maxRecDepth 100000 in
theorem rest_any (v : Value) (s : List Pr) (w : World) (h : Row encP 2 w v s) (hl : s.length ≤ 100000) (hc : Cn s) :
    Calls Try.prog 31 #[v] w fun e w' => ∃ v', e = .returned v' ∧ Own encP 2 w.heap.size w' v' (restL s) ∧ Below w.heap.size w w' := by
  obtain ⟨ao, cap, rfl, h1, h2, h3⟩ := h
  have H3 : Aside (s ≠ [] → ∃ b off, ao = some ⟨b, off, none⟩ ∧ b < w.heap.size ∧ CellsK encP 2 w b off s) := h3
  have HC : Hid (Cn s) := hc
  clear h3 hc
  go_enter Try.func31, Try.ntmps31
  go_wp2
  go_loopg [3, 4, 9] s.length (fun kx s3 s4 s9 wr => ∃ (i : Nat) (ao' : Option Addr) (n' c' : Nat) (f : Int) (out : List Pr), s3 = .slice ao' n' c' ∧ s4 = .int .i64 f ∧ s9 = .int .i64 i ∧ i ≤ s.length ∧ s.length - i ≤ kx ∧ 0 ≤ f ∧ f ≤ 4294967296 ∧ Aside (OwnP w.heap.size wr (.slice ao' n' c') out) ∧ Hid (Below w.heap.size w wr) ∧ Hid (out ++ restGo f (s.drop i) = restL s) ∧ out.length ≤ i)
  case atStart => exact ⟨0, none, 0, 0, 0, [], rfl, rfl, rfl, Nat.zero_le _, Nat.le_refl _, by omega, by omega, OwnP.empty _ _, Below.refl _ _, rfl, Nat.le_refl _⟩
  case round =>
    obtain ⟨i, ao', n', c', f, out, rfl, rfl, rfl, hi, hki, f0, f1, HO, HB, HE, hlen⟩ := hrel
    have hsz : w.heap.size ≤ wr.heap.size := HB.out.size
    by_cases hil : i < s.length
    · have hilz : (i : Int) < (s.length : Int) := by omega
      obtain ⟨b, off, rfl, hb, x1, x2⟩ := row_at H3.out i hil HB.out
      have TD : Hid (s.drop i = s[i]! :: s.drop (i + 1)) := drop_here hil
      obtain ⟨y1, y2, y3⟩ := HC.out.1 s[i]! (bang_mem hil)
      generalize s[i]! = x at *
      have e1 : wrap64 (x.1 - 1) = x.1 - 1 := w64 (by omega) (by omega)
      have e2 : wrap64 (x.2 + 1) = x.2 + 1 := w64 (by omega) (by omega)
      by_cases hf : f < x.1
      · have E2 : Hid ((out ++ [(f, x.1 - 1)]) ++ restGo (x.2 + 1) (s.drop (i + 1)) = restL s) := by
          show _ = _
          rw [← HE.out, TD.out, restGo, if_pos hf, List.append_assoc]; rfl
        have O2 : Aside (OwnP w.heap.size (wr.alloc (.cells #[.int .i64 x.1, .int .i64 x.2] 29)) (.slice ao' n' c') out) := HO.out.alloc _
        have P2 : Hid (Cl (wr.alloc (.cells #[.int .i64 x.1, .int .i64 x.2] 29)) wr.heap.size #[.int .i64 x.1, .int .i64 x.2] 29) := Cl.new _ _ _
        have B2 : Hid (Below w.heap.size w (wr.alloc (.cells #[.int .i64 x.1, .int .i64 x.2] 29))) := HB.out.alloc hsz _
        have NB : Hid ((Value.slice ao' n' c').ownBlock ≠ some wr.heap.size) := HO.out.other (Nat.le_refl _)
        clear HE
        go_upto_region 7 with fail
        clear HO HB x1 x2
        generalize wr.alloc (.cells #[.int .i64 x.1, .int .i64 x.2] 29) = w2 at *
        generalize wr.heap.size = q at *
        have p0 := P2.out.two.1
        have hs2 : w.heap.size ≤ w2.heap.size := B2.out.size
        go_wp2_with (at_builtin; refine app_run rfl _ _ rfl w.heap.size _ out rfl (O2.out.alloc _) w2.heap.size 0 1 rfl (f, x.1 - 1) (by simp) (by simp) (by omega) (by simp; omega) ?_)
        intro ao3 n3 c3 w3 HO3 HB3 HK3
        have O4 : Aside (OwnP w.heap.size w3 (.slice ao3 n3 c3) (out ++ [(f, x.1 - 1)])) := HO3
        have B4 : Hid (Below w.heap.size w w3) := HB3 _ (B2.out.alloc hs2 _)
        have P4 : Cl w3 q #[.int .i64 x.1, .int .i64 x.2] 29 := (HK3 q (by have := P2.out.lt; simp; omega) NB.out).trans (P2.out.alloc _)
        have p41 := P4.two.2
        clear HO3 HB3 HK3 O2 B2 P2 P4 p0
        go_wp2
        go_roundg (s.length - (i + 1))
        case measure => omega
        case rel => exact ⟨i + 1, ao3, n3, c3, x.2 + 1, _, rfl, rfl, by go_num, by omega, Nat.le_refl _, by omega, by omega, O4, B4, E2, by simp; omega⟩
      · have E2 : Hid (out ++ restGo (x.2 + 1) (s.drop (i + 1)) = restL s) := by
          show _ = _
          rw [← HE.out, TD.out, restGo, if_neg hf]
        have O2 : Aside (OwnP w.heap.size (wr.alloc (.cells #[.int .i64 x.1, .int .i64 x.2] 29)) (.slice ao' n' c') out) := HO.out.alloc _
        have B2 : Hid (Below w.heap.size w (wr.alloc (.cells #[.int .i64 x.1, .int .i64 x.2] 29))) := HB.out.alloc hsz _
        clear HE HO HB
        go_wp2
        go_roundg (s.length - (i + 1))
        case measure => omega
        case rel => exact ⟨i + 1, ao', n', c', x.2 + 1, out, rfl, rfl, by go_num, by omega, Nat.le_refl _, by omega, by omega, O2, B2, E2, by omega⟩
    · have hilz : ¬ (i : Int) < (s.length : Int) := by omega
      obtain rfl : i = s.length := by omega
      rw [List.drop_length] at HE
      by_cases hf : f ≤ 4294967295
      · have E2 : Hid (out ++ [(f, 4294967295)] = restL s) := by
          show _ = _
          rw [← HE.out, restGo, if_pos hf]
        clear HE
        go_wp2_with (at_builtin; refine app_run rfl _ _ rfl w.heap.size _ out rfl (HO.out.alloc _) wr.heap.size 0 1 rfl (f, 4294967295) (by simp) (by simp) (by omega) (by simp; omega) ?_)
        intro ao3 n3 c3 w3 HO3 HB3 _
        have O4 : Aside (OwnP w.heap.size w3 (.slice ao3 n3 c3) (out ++ [(f, 4294967295)])) := HO3
        have B4 : Hid (Below w.heap.size w w3) := HB3 _ (HB.out.alloc hsz _)
        clear HO3 HB3
        go_wp2
        go_ret
        exact ⟨_, rfl, by rw [← E2.out]; exact O4.out.own, B4.out⟩
      · have E2 : Hid (out = restL s) := by
          show _ = _
          rw [← HE.out, restGo, if_neg hf, List.append_nil]
        clear HE
        go_wp2
        go_ret
        exact ⟨_, rfl, by rw [← E2.out]; exact HO.out.own, HB.out⟩

end Go.Proofs.Ytoigljefajbofaa

/-
  The walks of package node's joined and replaced, at entries, numbers and texts.
-/
import Derived.Test.YtmamnlphhiaeoaaNdMem
namespace Go.Proofs.Ytmamnlphhiaeoaa
open Go.Shelf Go.RowKit Go.Lib Go.Sort

theorem flat_next {α : Type} [Inhabited α] {ls : List (List α)} {i : Nat} (h : i < ls.length) : (ls.take (i + 1)).flatten = (ls.take i).flatten ++ ls[i]! := by
  rw [take_next h]; simp
theorem flat_le {α : Type} [Inhabited α] {ls : List (List α)} {i : Nat} (h : i < ls.length) : (ls.take i).flatten.length + ls[i]!.length ≤ ls.flatten.length := by
  rw [← List.length_append, ← flat_next h]
  have := congrArg (fun l => l.flatten.length) (List.take_append_drop (i + 1) ls)
  simp only [List.flatten_append, List.length_append] at this
  omega

set_option maxHeartbeats 2000000 in
set_option maxRecDepth 100000 in
theorem joinedE (q : Nat) (t : TypeId) (vs : List Value) (ls : List (List En)) (m : Nat) (w : World) (hq : Cl w q vs.toArray t) (hv : vs.length = m) (hvl : ls.length = m) (hr : ∀ i, i < m → Row encP 2 w vs[i]! ls[i]!) (hN : ls.flatten.length < 1000000) (hm : m ≤ 1000) (out : List En) (hout : ls.flatten = out) :
    Calls Try.prog 47 #[.slice (some ⟨q, 0, none⟩) m m] w fun e w' => ∃ ao n c, e = .returned (.slice ao n c) ∧ OwnP w.heap.size w' (.slice ao n c) out ∧ Below w.heap.size w w' := by
  subst hout
  have HQ : Aside (Cl w q vs.toArray t) := hq
  have HR : Aside (∀ i, i < m → Row encP 2 w vs[i]! ls[i]!) := hr
  have HV : Hid (vs.length = m) := hv
  have HL : Hid (ls.length = m) := hvl
  have hqlt := hq.lt
  clear hq hr hv hvl
  go_enter Try.func47, Try.ntmps47
  go_wp2
  go_loopg [3, 8] m (fun kx s3 s8 wr => ∃ (i : Nat) (ao' : Option Addr) (n' c' : Nat) (out : List En), s3 = .slice ao' n' c' ∧ s8 = .int .i64 i ∧ i ≤ m ∧ m - i ≤ kx ∧ Hid ((ls.take i).flatten = out) ∧ Aside (OwnP w.heap.size wr (.slice ao' n' c') out) ∧ Hid (Below w.heap.size w wr))
  case atStart => exact ⟨0, none, 0, 0, [], rfl, rfl, Nat.zero_le _, Nat.le_refl _, rfl, OwnP.empty _ _, Below.refl _ _⟩
  case round =>
    obtain ⟨i, ao', n', c', out, rfl, rfl, hi, hki, HD, HO, HB⟩ := hrel
    by_cases hil : i < m
    · have hilz : (i : Int) < (m : Int) := by omega
      have hill : i < ls.length := by rw [HL.out]; exact hil
      have T : Hid _ := flat_next hill
      have hle := flat_le hill
      rw [HD.out] at T hle
      have R0 := (HR.out i hil).below HB.out
      have c0 : wr.cell? ⟨q, i, none⟩ = some vs[i]! := by
        rw [HB.out.cell (p := ⟨q, i, none⟩) hqlt, HQ.out.cell i, List.getElem?_toArray, List.getElem?_eq_getElem (by rw [HV.out]; exact hil), getElem!_pos vs i (by rw [HV.out]; exact hil)]
      generalize vs[i]! = u at *
      generalize ls[i]! = x at *
      have RX : Aside (Row encP 2 wr u x) := R0
      obtain ⟨au, cu, rfl, _⟩ := rowShape R0
      obtain ⟨o2, ho2⟩ : ∃ o2, out ++ x = o2 := ⟨_, rfl⟩
      have E2 : Hid (out ++ x = o2) := ho2
      rw [ho2] at T
      have hsz := HB.out.size
      clear ho2 R0
      go_wp2_with (at_builtin; refine appE rfl _ _ rfl w.heap.size _ out rfl HO.out _ x rfl RX.out (by omega) hsz o2 E2.out ?_)
      intro a6 n6 c6 w6 P6 Q6
      have O7 : Aside (OwnP w.heap.size w6 (.slice a6 n6 c6) o2) := P6
      have B7 : Hid (Below w.heap.size w w6) := Q6 _ HB.out
      clear P6 Q6 HO HB RX E2 hsz hle
      go_wp2
      go_roundg (m - (i + 1))
      case measure => omega
      case rel => exact ⟨i + 1, a6, n6, c6, o2, rfl, by go_num, by omega, Nat.le_refl _, T, O7, B7⟩
    · have hilz : ¬ (i : Int) < (m : Int) := by omega
      obtain rfl : i = m := by omega
      have E : (ls.take i).flatten = ls.flatten := by rw [List.take_of_length_le (by rw [HL.out]; exact Nat.le_refl _)]
      have E2 : Hid (ls.flatten = out) := E.symm.trans HD.out
      clear E
      go_wp2
      go_ret
      exact ⟨_, _, _, rfl, by rw [E2.out]; exact HO.out, HB.out⟩
theorem joinedE1 (q : Nat) (t : TypeId) (v : Value) (l : List En) (w : World) (hq : Cl w q #[v] t) (h : Row encP 2 w v l) (hN : l.length < 1000000) :
    Calls Try.prog 47 #[.slice (some ⟨q, 0, none⟩) 1 1] w fun e w' => ∃ ao n c, e = .returned (.slice ao n c) ∧ OwnP w.heap.size w' (.slice ao n c) l ∧ Below w.heap.size w w' :=
  joinedE q t [v] [l] 1 w hq rfl rfl (fun i hi => by
    rcases (by omega : i = 0) with rfl
    exact h) (by simpa using hN) (by decide) l (by simp)
theorem joinedE2 (q : Nat) (t : TypeId) (v u : Value) (l m : List En) (w : World) (hq : Cl w q #[v, u] t) (h : Row encP 2 w v l) (h2 : Row encP 2 w u m) (hN : l.length + m.length < 1000000) :
    Calls Try.prog 47 #[.slice (some ⟨q, 0, none⟩) 2 2] w fun e w' => ∃ ao n c, e = .returned (.slice ao n c) ∧ OwnP w.heap.size w' (.slice ao n c) (l ++ m) ∧ Below w.heap.size w w' :=
  joinedE q t [v, u] [l, m] 2 w hq rfl rfl (fun i hi => by
    rcases (by omega : i = 0 ∨ i = 1) with rfl | rfl
    · exact h
    · exact h2) (by simpa using hN) (by decide) (l ++ m) (by simp)
theorem joinedE3 (q : Nat) (t : TypeId) (v u z : Value) (l m n : List En) (w : World) (hq : Cl w q #[v, u, z] t) (h : Row encP 2 w v l) (h2 : Row encP 2 w u m) (h3 : Row encP 2 w z n) (hN : l.length + m.length + n.length < 1000000) :
    Calls Try.prog 47 #[.slice (some ⟨q, 0, none⟩) 3 3] w fun e w' => ∃ ao n' c, e = .returned (.slice ao n' c) ∧ OwnP w.heap.size w' (.slice ao n' c) (l ++ m ++ n) ∧ Below w.heap.size w w' :=
  joinedE q t [v, u, z] [l, m, n] 3 w hq rfl rfl (fun i hi => by
    rcases (by omega : i = 0 ∨ i = 1 ∨ i = 2) with rfl | rfl | rfl
    · exact h
    · exact h2
    · exact h3) (by simp; omega) (by decide) (l ++ m ++ n) (by simp)

set_option maxHeartbeats 2000000 in
set_option maxRecDepth 100000 in
theorem joinedI (q : Nat) (t : TypeId) (vs : List Value) (ls : List (List Int)) (m : Nat) (w : World) (hq : Cl w q vs.toArray t) (hv : vs.length = m) (hvl : ls.length = m) (hr : ∀ i, i < m → Row encI 1 w vs[i]! ls[i]!) (hN : ls.flatten.length < 1000000) (hm : m ≤ 1000) (out : List Int) (hout : ls.flatten = out) :
    Calls Try.prog 48 #[.slice (some ⟨q, 0, none⟩) m m] w fun e w' => ∃ ao n c, e = .returned (.slice ao n c) ∧ OwnI w.heap.size w' (.slice ao n c) out ∧ Below w.heap.size w w' := by
  subst hout
  have HQ : Aside (Cl w q vs.toArray t) := hq
  have HR : Aside (∀ i, i < m → Row encI 1 w vs[i]! ls[i]!) := hr
  have HV : Hid (vs.length = m) := hv
  have HL : Hid (ls.length = m) := hvl
  have hqlt := hq.lt
  clear hq hr hv hvl
  go_enter Try.func48, Try.ntmps48
  go_wp2
  go_loopg [3, 8] m (fun kx s3 s8 wr => ∃ (i : Nat) (ao' : Option Addr) (n' c' : Nat) (out : List Int), s3 = .slice ao' n' c' ∧ s8 = .int .i64 i ∧ i ≤ m ∧ m - i ≤ kx ∧ Hid ((ls.take i).flatten = out) ∧ Aside (OwnI w.heap.size wr (.slice ao' n' c') out) ∧ Hid (Below w.heap.size w wr))
  case atStart => exact ⟨0, none, 0, 0, [], rfl, rfl, Nat.zero_le _, Nat.le_refl _, rfl, OwnI.empty _ _, Below.refl _ _⟩
  case round =>
    obtain ⟨i, ao', n', c', out, rfl, rfl, hi, hki, HD, HO, HB⟩ := hrel
    by_cases hil : i < m
    · have hilz : (i : Int) < (m : Int) := by omega
      have hill : i < ls.length := by rw [HL.out]; exact hil
      have T : Hid _ := flat_next hill
      have hle := flat_le hill
      rw [HD.out] at T hle
      have R0 := (HR.out i hil).below HB.out
      have c0 : wr.cell? ⟨q, i, none⟩ = some vs[i]! := by
        rw [HB.out.cell (p := ⟨q, i, none⟩) hqlt, HQ.out.cell i, List.getElem?_toArray, List.getElem?_eq_getElem (by rw [HV.out]; exact hil), getElem!_pos vs i (by rw [HV.out]; exact hil)]
      generalize vs[i]! = u at *
      generalize ls[i]! = x at *
      have RX : Aside (Row encI 1 wr u x) := R0
      obtain ⟨au, cu, rfl, _⟩ := rowShape R0
      obtain ⟨o2, ho2⟩ : ∃ o2, out ++ x = o2 := ⟨_, rfl⟩
      have E2 : Hid (out ++ x = o2) := ho2
      rw [ho2] at T
      have hsz := HB.out.size
      clear ho2 R0
      go_wp2_with (at_builtin; refine appI rfl _ _ rfl w.heap.size _ out rfl HO.out _ x rfl RX.out (by omega) hsz o2 E2.out ?_)
      intro a6 n6 c6 w6 P6 Q6
      have O7 : Aside (OwnI w.heap.size w6 (.slice a6 n6 c6) o2) := P6
      have B7 : Hid (Below w.heap.size w w6) := Q6 _ HB.out
      clear P6 Q6 HO HB RX E2 hsz hle
      go_wp2
      go_roundg (m - (i + 1))
      case measure => omega
      case rel => exact ⟨i + 1, a6, n6, c6, o2, rfl, by go_num, by omega, Nat.le_refl _, T, O7, B7⟩
    · have hilz : ¬ (i : Int) < (m : Int) := by omega
      obtain rfl : i = m := by omega
      have E : (ls.take i).flatten = ls.flatten := by rw [List.take_of_length_le (by rw [HL.out]; exact Nat.le_refl _)]
      have E2 : Hid (ls.flatten = out) := E.symm.trans HD.out
      clear E
      go_wp2
      go_ret
      exact ⟨_, _, _, rfl, by rw [E2.out]; exact HO.out, HB.out⟩
theorem joinedI1 (q : Nat) (t : TypeId) (v : Value) (l : List Int) (w : World) (hq : Cl w q #[v] t) (h : Row encI 1 w v l) (hN : l.length < 1000000) :
    Calls Try.prog 48 #[.slice (some ⟨q, 0, none⟩) 1 1] w fun e w' => ∃ ao n c, e = .returned (.slice ao n c) ∧ OwnI w.heap.size w' (.slice ao n c) l ∧ Below w.heap.size w w' :=
  joinedI q t [v] [l] 1 w hq rfl rfl (fun i hi => by
    rcases (by omega : i = 0) with rfl
    exact h) (by simpa using hN) (by decide) l (by simp)
theorem joinedI2 (q : Nat) (t : TypeId) (v u : Value) (l m : List Int) (w : World) (hq : Cl w q #[v, u] t) (h : Row encI 1 w v l) (h2 : Row encI 1 w u m) (hN : l.length + m.length < 1000000) :
    Calls Try.prog 48 #[.slice (some ⟨q, 0, none⟩) 2 2] w fun e w' => ∃ ao n c, e = .returned (.slice ao n c) ∧ OwnI w.heap.size w' (.slice ao n c) (l ++ m) ∧ Below w.heap.size w w' :=
  joinedI q t [v, u] [l, m] 2 w hq rfl rfl (fun i hi => by
    rcases (by omega : i = 0 ∨ i = 1) with rfl | rfl
    · exact h
    · exact h2) (by simpa using hN) (by decide) (l ++ m) (by simp)
theorem joinedI3 (q : Nat) (t : TypeId) (v u z : Value) (l m n : List Int) (w : World) (hq : Cl w q #[v, u, z] t) (h : Row encI 1 w v l) (h2 : Row encI 1 w u m) (h3 : Row encI 1 w z n) (hN : l.length + m.length + n.length < 1000000) :
    Calls Try.prog 48 #[.slice (some ⟨q, 0, none⟩) 3 3] w fun e w' => ∃ ao n' c, e = .returned (.slice ao n' c) ∧ OwnI w.heap.size w' (.slice ao n' c) (l ++ m ++ n) ∧ Below w.heap.size w w' :=
  joinedI q t [v, u, z] [l, m, n] 3 w hq rfl rfl (fun i hi => by
    rcases (by omega : i = 0 ∨ i = 1 ∨ i = 2) with rfl | rfl | rfl
    · exact h
    · exact h2
    · exact h3) (by simp; omega) (by decide) (l ++ m ++ n) (by simp)

set_option maxHeartbeats 2000000 in
set_option maxRecDepth 100000 in
theorem joinedS (q : Nat) (t : TypeId) (vs : List Value) (ls : List (List ByteArray)) (m : Nat) (w : World) (hq : Cl w q vs.toArray t) (hv : vs.length = m) (hvl : ls.length = m) (hr : ∀ i, i < m → Row encS 1 w vs[i]! ls[i]!) (hN : ls.flatten.length < 1000000) (hm : m ≤ 1000) (out : List ByteArray) (hout : ls.flatten = out) :
    Calls Try.prog 49 #[.slice (some ⟨q, 0, none⟩) m m] w fun e w' => ∃ ao n c, e = .returned (.slice ao n c) ∧ OwnS w.heap.size w' (.slice ao n c) out ∧ Below w.heap.size w w' := by
  subst hout
  have HQ : Aside (Cl w q vs.toArray t) := hq
  have HR : Aside (∀ i, i < m → Row encS 1 w vs[i]! ls[i]!) := hr
  have HV : Hid (vs.length = m) := hv
  have HL : Hid (ls.length = m) := hvl
  have hqlt := hq.lt
  clear hq hr hv hvl
  go_enter Try.func49, Try.ntmps49
  go_wp2
  go_loopg [3, 8] m (fun kx s3 s8 wr => ∃ (i : Nat) (ao' : Option Addr) (n' c' : Nat) (out : List ByteArray), s3 = .slice ao' n' c' ∧ s8 = .int .i64 i ∧ i ≤ m ∧ m - i ≤ kx ∧ Hid ((ls.take i).flatten = out) ∧ Aside (OwnS w.heap.size wr (.slice ao' n' c') out) ∧ Hid (Below w.heap.size w wr))
  case atStart => exact ⟨0, none, 0, 0, [], rfl, rfl, Nat.zero_le _, Nat.le_refl _, rfl, OwnS.empty _ _, Below.refl _ _⟩
  case round =>
    obtain ⟨i, ao', n', c', out, rfl, rfl, hi, hki, HD, HO, HB⟩ := hrel
    by_cases hil : i < m
    · have hilz : (i : Int) < (m : Int) := by omega
      have hill : i < ls.length := by rw [HL.out]; exact hil
      have T : Hid _ := flat_next hill
      have hle := flat_le hill
      rw [HD.out] at T hle
      have R0 := (HR.out i hil).below HB.out
      have c0 : wr.cell? ⟨q, i, none⟩ = some vs[i]! := by
        rw [HB.out.cell (p := ⟨q, i, none⟩) hqlt, HQ.out.cell i, List.getElem?_toArray, List.getElem?_eq_getElem (by rw [HV.out]; exact hil), getElem!_pos vs i (by rw [HV.out]; exact hil)]
      generalize vs[i]! = u at *
      generalize ls[i]! = x at *
      have RX : Aside (Row encS 1 wr u x) := R0
      obtain ⟨au, cu, rfl, _⟩ := rowShape R0
      obtain ⟨o2, ho2⟩ : ∃ o2, out ++ x = o2 := ⟨_, rfl⟩
      have E2 : Hid (out ++ x = o2) := ho2
      rw [ho2] at T
      have hsz := HB.out.size
      clear ho2 R0
      go_wp2_with (at_builtin; refine appS rfl _ _ rfl w.heap.size _ out rfl HO.out _ x rfl RX.out (by omega) hsz o2 E2.out ?_)
      intro a6 n6 c6 w6 P6 Q6
      have O7 : Aside (OwnS w.heap.size w6 (.slice a6 n6 c6) o2) := P6
      have B7 : Hid (Below w.heap.size w w6) := Q6 _ HB.out
      clear P6 Q6 HO HB RX E2 hsz hle
      go_wp2
      go_roundg (m - (i + 1))
      case measure => omega
      case rel => exact ⟨i + 1, a6, n6, c6, o2, rfl, by go_num, by omega, Nat.le_refl _, T, O7, B7⟩
    · have hilz : ¬ (i : Int) < (m : Int) := by omega
      obtain rfl : i = m := by omega
      have E : (ls.take i).flatten = ls.flatten := by rw [List.take_of_length_le (by rw [HL.out]; exact Nat.le_refl _)]
      have E2 : Hid (ls.flatten = out) := E.symm.trans HD.out
      clear E
      go_wp2
      go_ret
      exact ⟨_, _, _, rfl, by rw [E2.out]; exact HO.out, HB.out⟩
theorem joinedS1 (q : Nat) (t : TypeId) (v : Value) (l : List ByteArray) (w : World) (hq : Cl w q #[v] t) (h : Row encS 1 w v l) (hN : l.length < 1000000) :
    Calls Try.prog 49 #[.slice (some ⟨q, 0, none⟩) 1 1] w fun e w' => ∃ ao n c, e = .returned (.slice ao n c) ∧ OwnS w.heap.size w' (.slice ao n c) l ∧ Below w.heap.size w w' :=
  joinedS q t [v] [l] 1 w hq rfl rfl (fun i hi => by
    rcases (by omega : i = 0) with rfl
    exact h) (by simpa using hN) (by decide) l (by simp)
theorem joinedS2 (q : Nat) (t : TypeId) (v u : Value) (l m : List ByteArray) (w : World) (hq : Cl w q #[v, u] t) (h : Row encS 1 w v l) (h2 : Row encS 1 w u m) (hN : l.length + m.length < 1000000) :
    Calls Try.prog 49 #[.slice (some ⟨q, 0, none⟩) 2 2] w fun e w' => ∃ ao n c, e = .returned (.slice ao n c) ∧ OwnS w.heap.size w' (.slice ao n c) (l ++ m) ∧ Below w.heap.size w w' :=
  joinedS q t [v, u] [l, m] 2 w hq rfl rfl (fun i hi => by
    rcases (by omega : i = 0 ∨ i = 1) with rfl | rfl
    · exact h
    · exact h2) (by simpa using hN) (by decide) (l ++ m) (by simp)
theorem joinedS3 (q : Nat) (t : TypeId) (v u z : Value) (l m n : List ByteArray) (w : World) (hq : Cl w q #[v, u, z] t) (h : Row encS 1 w v l) (h2 : Row encS 1 w u m) (h3 : Row encS 1 w z n) (hN : l.length + m.length + n.length < 1000000) :
    Calls Try.prog 49 #[.slice (some ⟨q, 0, none⟩) 3 3] w fun e w' => ∃ ao n' c, e = .returned (.slice ao n' c) ∧ OwnS w.heap.size w' (.slice ao n' c) (l ++ m ++ n) ∧ Below w.heap.size w w' :=
  joinedS q t [v, u, z] [l, m, n] 3 w hq rfl rfl (fun i hi => by
    rcases (by omega : i = 0 ∨ i = 1 ∨ i = 2) with rfl | rfl | rfl
    · exact h
    · exact h2
    · exact h3) (by simp; omega) (by decide) (l ++ m ++ n) (by simp)

end Go.Proofs.Ytmamnlphhiaeoaa

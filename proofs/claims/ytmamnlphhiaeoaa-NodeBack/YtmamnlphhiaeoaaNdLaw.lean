/-
  The walks of package node's Child, of the document's Same at two nodes that are the same, and of the law's own of and over.
-/
import Derived.Test.YtmamnlphhiaeoaaNdRt
import Derived.Test.YtmamnlphhiaeoaaNd2
namespace Go.Proofs.Ytmamnlphhiaeoaa
open Go.Shelf Go.RowKit Go.Lib Go.Sort

theorem chN_snoc {ss : List ByteArray} {k : ByteArray} {i : Nat} (h : i < ss.length) : chN (ss.take (i + 1)) k = chN (ss.take i) k + (if ltK k ss[i]! = true then 0 else 1) := by
  unfold chN
  rw [take_next h, List.countP_append]
  generalize ss[i]! = x
  cases hx : ltK k x <;> simp [hx]
theorem chN_le (ss : List ByteArray) (k : ByteArray) : chN ss k ≤ ss.length := List.countP_le_length

set_option maxHeartbeats 2000000 in
set_option maxRecDepth 100000 in
theorem child_any (n : Nd) (key : ByteArray) (ve vk vs : Value) (w : World) (h : NdR w ve vk vs n) (hs : Sm n) :
    Calls Try.prog 21 #[.agg #[.bool n.leaf, ve, vk, vs], .string key] w fun e w' => e = .returned (.int .i64 (chN n.ss key)) ∧ Below w.heap.size w w' := by
  obtain ⟨lf, es, ks, ss⟩ := n
  obtain ⟨he, hk, hss⟩ := h
  obtain ⟨s1, s2, s3, s4, s5⟩ := hs
  simp only at he hk hss s1 s2 s3 s4 s5 ⊢
  obtain ⟨B, c0, c1, c2, c3, hlt⟩ := ndCl w lf ve vk vs 26
  have RS0 := hss.below B
  obtain ⟨ae, ce, rfl, _⟩ := rowShape he
  obtain ⟨ak, ck, rfl, _⟩ := rowShape hk
  obtain ⟨az, cz, rfl, _⟩ := rowShape hss
  have HB : Hid _ := B
  obtain ⟨az1, cz1, e1, h1, h2, h3⟩ := RS0
  cases e1
  have H3 : Aside (ss ≠ [] → ∃ b off, az = some ⟨b, off, none⟩ ∧ b < (w.alloc (.cells #[.bool lf, .slice ae es.length ce, .slice ak ks.length ck, .slice az ss.length cz] 26)).heap.size ∧ CellsK encS 1 (w.alloc (.cells #[.bool lf, .slice ae es.length ce, .slice ak ks.length ck, .slice az ss.length cz] 26)) b off ss) := h3
  clear he hk hss B h3
  go_enter Try.func21, Try.ntmps21
  go_upto_region 1 with fail
  generalize w.alloc (.cells #[.bool lf, .slice ae es.length ce, .slice ak ks.length ck, .slice az ss.length cz] 26) = W at *
  go_wp2
  go_loopg [5, 11] ss.length (fun kx s5 s11 wr => ∃ (i m : Nat), s5 = .int .i64 m ∧ s11 = .int .i64 i ∧ i ≤ ss.length ∧ ss.length - i ≤ kx ∧ m ≤ i ∧ Hid (chN (ss.take i) key = m) ∧ W = wr)
  case atStart => exact ⟨0, 0, rfl, rfl, Nat.zero_le _, Nat.le_refl _, Nat.le_refl _, rfl, rfl⟩
  case round =>
    obtain ⟨i, m, rfl, rfl, hi, hki, hmi, HS, rfl⟩ := hrel
    by_cases hil : i < ss.length
    · have hilz : (i : Int) < (ss.length : Int) := by omega
      obtain ⟨b, off, rfl, hb, x1⟩ := rowS_at H3.out i hil (Below.refl _ W)
      have T : Hid _ := chN_snoc (k := key) hil
      rw [HS.out] at T
      generalize ss[i]! = x at *
      cases hlt1 : ltK key x with
      | true =>
        have T2 : Hid (chN (ss.take (i + 1)) key = m) := by show _ = _; rw [T.out, hlt1]; rfl
        have hl2 : Op.bytesLess key.toList x.toList = true := hlt1
        have hl3 : Op.bytesLess x.toList key.toList = false := ltK_asymm hlt1
        have hl4 : (x.toList == key.toList) = false := str_no (ltK_ne hlt1).symm
        have hl5 : ¬ x.toList = key.toList := fun e => (ltK_ne hlt1).symm (baL_inj e)
        clear T HS hlt1
        go_wp2
        go_roundg (ss.length - (i + 1))
        case measure => omega
        case rel => exact ⟨i + 1, m, rfl, by go_num, by omega, Nat.le_refl _, by omega, T2, rfl⟩
      | false =>
        have T2 : Hid (chN (ss.take (i + 1)) key = m + 1) := by show _ = _; rw [T.out, hlt1]; rfl
        by_cases he : x = key
        · subst he
          clear T HS hlt1
          go_wp2
          go_roundg (ss.length - (i + 1))
          case measure => omega
          case rel => exact ⟨i + 1, m + 1, by go_num, by go_num, by omega, Nat.le_refl _, by omega, T2, rfl⟩
        · have hl3 : Op.bytesLess x.toList key.toList = true := ltK_of_not hlt1 (fun e => he e.symm)
          clear T HS hlt1
          go_wp2
          go_roundg (ss.length - (i + 1))
          case measure => omega
          case rel => exact ⟨i + 1, m + 1, by go_num, by go_num, by omega, Nat.le_refl _, by omega, T2, rfl⟩
    · have hilz : ¬ (i : Int) < (ss.length : Int) := by omega
      obtain rfl : i = ss.length := by omega
      rw [List.take_length] at HS
      go_wp2
      go_ret
      exact ⟨ret_i (by rw [HS.out]), HB.out⟩

set_option maxHeartbeats 2000000 in
set_option maxRecDepth 100000 in
theorem of_any (lf : Bool) (ve vk vs : Value) (w : World) (n : Nd) (h : NdR w ve vk vs n) :
    Calls Try.prog 10 #[.agg #[.bool lf, ve, vk, vs]] w fun e w' => e = .returned (.agg #[.bool lf, ve, vk, vs]) ∧ Below w.heap.size w w' := by
  obtain ⟨ae, ce, rfl, _⟩ := rowShape h.e
  obtain ⟨ak, ck, rfl, _⟩ := rowShape h.k
  obtain ⟨az, cz, rfl, _⟩ := rowShape h.s
  generalize n.es.length = n1
  generalize n.ks.length = n2
  generalize n.ss.length = n3
  have BW : Hid (Below w.heap.size w ((w.alloc (.cells #[.bool lf, .slice ae n1 ce, .slice ak n2 ck, .slice az n3 cz] 26)).alloc (.cells #[.bool lf, .slice ae n1 ce, .slice ak n2 ck, .slice az n3 cz] 30))) := belAlloc _ (belAlloc _ (Below.refl _ _))
  have K : Cl ((w.alloc (.cells #[.bool lf, .slice ae n1 ce, .slice ak n2 ck, .slice az n3 cz] 26)).alloc (.cells #[.bool lf, .slice ae n1 ce, .slice ak n2 ck, .slice az n3 cz] 30)) (w.heap.size + 1) #[.bool lf, .slice ae n1 ce, .slice ak n2 ck, .slice az n3 cz] 30 := Cl.new1 _ _ _ _
  go_enter Try.func10, Try.ntmps10
  go_wp2
  (try simp only [Exit.inBlock, Exit.then])
  generalize ((w.alloc (.cells #[.bool lf, .slice ae n1 ce, .slice ak n2 ck, .slice az n3 cz] 26)).alloc (.cells #[.bool lf, .slice ae n1 ce, .slice ak n2 ck, .slice az n3 cz] 30)) = W at *
  obtain ⟨c0, c1, c2, c3⟩ := K.four
  refine bodyPost_ret (v := .agg #[.bool lf, .slice ae n1 ce, .slice ak n2 ck, .slice az n3 cz]) ?_ rfl ⟨rfl, BW.out⟩
  rw [results_cell rfl]
  go_simp

end Go.Proofs.Ytmamnlphhiaeoaa

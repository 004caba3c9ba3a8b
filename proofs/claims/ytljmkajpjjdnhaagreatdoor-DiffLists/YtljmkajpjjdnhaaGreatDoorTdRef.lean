/-
  The walks of the document's Lists and Apply of layer 14.
-/
import Derived.Test.YtljmkajpjjdnhaaGreatDoorTdLists
import Derived.Test.YtljmkajpjjdnhaaGreatDoorTdApply
import Derived.Test.YtljmkajpjjdnhaaGreatDoorBEnR
import Derived.Deep.DeepCutAuto
namespace Go.Proofs.YtljmkajpjjdnhaaGreatDoor.N
open Go.Shelf Go.RowKit Go.Lib Go.Sort
set_option linter.unusedVariables false
set_option linter.unusedSectionVars false
variable [DecidableEq Dl] [Inhabited Dl] [Inhabited Th]

theorem infoRDelta : (Tryz.prog.info? 27).map (fun i => (i.zero, i.size, i.bytes)) = some (some (.agg #[.string ⟨#[]⟩, .string ⟨#[]⟩, .string ⟨#[]⟩, .bool false, .bool false]), 5, 56) := by kernel_rfl
def DeQ (v : Value) (s : List Dl) : Res := RowK 27 5 v s.length (flatK encD 5 s.toArray).toList
theorem snocQ {B : Nat} {w0 w : World} {l : List Res} {v : Value} {s : List Dl} {y : Dl} (h : Sep B w0 w (RowK 27 5 v (s.length + 1) ((flatK encD 5 s.toArray).toList ++ encD y) :: l)) : Sep B w0 w (DeQ v (s ++ [y]) :: l) := by
  unfold DeQ
  rw [List.length_append, List.length_singleton, flatK_snoc encD 5 encD_len]
  exact h
theorem ksL_take {ks a : List En} {i : Nat} (h : i < a.length) : ksL ks (a.take (i + 1)) = ptL (ksL ks (a.take i)) a[i]!.1 e0 := by
  rw [take_next h]
  unfold ksL
  rw [List.foldl_append]
  rfl
theorem ptL_len' (l : List En) (k v : ByteArray) : (ptL l k v).length ≤ l.length + 1 := by
  have key : ∀ (x : En) (m : List En), (insL x m).length = m.length + 1 := by
    intro x m
    induction m with
    | nil => rfl
    | cons y m ih =>
      unfold insL
      split
      · simp
      · simp [ih]
  unfold ptL
  rw [key]
  have : (dlL l k).length ≤ l.length := List.length_filter_le _ _
  omega
theorem ksL_len : ∀ (a ks : List En), (ksL ks a).length ≤ ks.length + a.length
  | [], _ => Nat.le_refl _
  | x :: a, ks => by
    have h1 := ksL_len a (ptL ks x.1 e0)
    have h2 := ptL_len' ks x.1 e0
    show (ksL (ptL ks x.1 e0) a).length ≤ _
    simp only [List.length_cons]
    omega
theorem dfK_take {a b ks : List En} {i : Nat} (h : i < ks.length) : dfK a b (ks.take (i + 1)) = dfK a b (ks.take i) ++ dlK a b ks[i]!.1 := by
  rw [take_next h]
  unfold dfK
  rw [List.flatMap_append]
  simp
theorem dfK_len (a b : List En) : ∀ ks : List En, (dfK a b ks).length ≤ ks.length
  | [] => Nat.le_refl _
  | k :: ks => by
    have := dfK_len a b ks
    show (dlK a b k.1 ++ dfK a b ks).length ≤ _
    rw [List.length_append]
    have h2 : (dlK a b k.1).length ≤ 1 := by unfold dlK; split <;> simp
    simp only [List.length_cons]
    omega
theorem ks_bound (ka b : List En) (i : Nat) (h1 : ka.length ≤ 10000) (h2 : b.length ≤ 10000) : (ksL ka (b.take i)).length ≤ 100000 :=
  Nat.le_trans (ksL_len (b.take i) ka) (Nat.le_trans (Nat.add_le_add h1 (Nat.le_trans (List.length_take_le' i b) h2)) (by decide))
theorem df_bound (a b ks : List En) (i : Nat) (h : ks.length ≤ 20000) : (dfK a b (ks.take i)).length < 1000000 :=
  Nat.lt_of_le_of_lt (dfK_len a b (ks.take i)) (Nat.lt_of_le_of_lt (Nat.le_trans (List.length_take_le' i ks) h) (by decide))
theorem ownLow {w : World} {B B' : Nat} {e : TypeId} {k n : Nat} {v : Value} {cs : List Value} (h : w.ownsRow B e k v n cs) (hb : B' ≤ B) : w.ownsRow B' e k v n cs := by
  refine ⟨h.1, ?_⟩
  rcases h.2 with h1 | ⟨g, cap, cur, h1, h2, h3⟩
  · exact .inl h1
  · exact .inr ⟨g, cap, cur, h1, Nat.le_trans hb h2, h3⟩
/-- What the document's Lists answers. -/
def GvQ (w : World) (s : List Dl) (e : Ending) (w' : World) : Prop := ∃ ao c, e = .returned (.slice ao s.length c) ∧ w'.ownsRow w.heap.size 27 5 (.slice ao s.length c) s.length (flatK encD 5 s.toArray).toList ∧ Below w.heap.size w w'
theorem GvQ.nil (w w' : World) (h : Below w.heap.size w w') : GvQ w [] (.returned (.slice none 0 0)) w' := ⟨none, 0, rfl, by simpa [flatK] using World.ownsRow_nil w' w.heap.size 27 5, h⟩

set_option maxRecDepth 100000 in
set_option maxHeartbeats 4000000 in
theorem rlists_any (va vb : Value) (a b : List En) (w : World) (ha : Row encP 2 w va a) (hb : Row encP 2 w vb b) (hl : a.length ≤ 10000) (hl2 : b.length ≤ 10000) :
    Calls Tryz.prog 9 #[va, vb] w (GvQ w (dfL a b)) := by
  have C1 : Hid _ := rright_any va a w ha (by omega)
  have C2 : Hid (∀ u, Below w.heap.size w u → _) := fun u (h : Below w.heap.size w u) => rright_any vb b u (Row.to hb h (Nat.le_refl _)) (by omega)
  have HA : Hid (Row encP 2 w va a) := ha
  have HB : Hid (Row encP 2 w vb b) := hb
  obtain ⟨aa, ca, rfl, a1, a2, a3⟩ := ha
  obtain ⟨ab, cb, rfl, b1, b2, b3⟩ := hb
  have A3 : Aside (a ≠ [] → ∃ b off, aa = some ⟨b, off, none⟩ ∧ b < w.heap.size ∧ CellsK encP 2 w b off a) := a3
  have B3 : Aside (b ≠ [] → ∃ b' off, ab = some ⟨b', off, none⟩ ∧ b' < w.heap.size ∧ CellsK encP 2 w b' off b) := b3
  clear a3 b3 a1 a2 b1 b2
  by_cases hrr : (rgB a && rgB b) = true
  · have E : Hid (dfL a b = dfK a b (ksL (ksL [] a) b)) := by show _ = _; unfold dfL; rw [if_pos hrr]
    rw [Bool.and_eq_true] at hrr
    rw [hrr.1] at C1
    rw [hrr.2] at C2
    clear hrr
    go_enter Tryz.func9, Tryz.ntmps9
    go_wp2_with fail
    refine Calls.mono C1.out ?_
    rintro e w1 ⟨rfl, hb1⟩
    have CZ : Hid _ := C2.out w1 hb1
    go_wp2_with fail
    refine Calls.mono CZ.out ?_
    rintro e w2 ⟨rfl, hb2⟩
    have HW : Hid (Below w.heap.size w w2) := hb1.trans (hb2.mono hb1.size)
    clear C1 C2 CZ hb1 hb2
    go_wp2
    go_loopg [7, 8] a.length (fun kx s7 s8 wr => ∃ (i : Nat) (ao : Option Addr) (n c : Nat), s7 = .slice ao n c ∧ s8 = .int .i64 i ∧ i ≤ a.length ∧ a.length - i ≤ kx ∧ Hid (Row encP 2 wr (.slice ao n c) (ksL [] (a.take i))) ∧ Hid (Below w.heap.size w wr))
    case atStart => exact ⟨0, none, 0, 0, rfl, rfl, Nat.zero_le _, Nat.le_refl _, (Own.nil (base := 0)).row, HW⟩
    case round =>
      obtain ⟨i, ao, n, c, rfl, rfl, hi, hki, HR, HBw⟩ := hrel
      clear HW
      by_cases hil : i < a.length
      · have hilz : (i : Int) < (a.length : Int) := by omega
        obtain ⟨q, off, rfl, hq, x0, x1⟩ := row_at A3.out i hil HBw.out
        clear hq
        have e1 : wrap64 ((i : Int) + 1) = (i : Int) + 1 := by unfold wrap64; omega
        have TK : Hid _ := ksL_take (ks := []) hil
        have hlen : Hid ((ksL [] (a.take i)).length ≤ 100000) := ks_bound [] a i (by simp) hl
        have CP : Hid _ := rput_any (.slice ao n c) (ksL [] (a.take i)) a[i]!.1 ⟨#[]⟩ wr HR.out hlen.out
        obtain ⟨kn, hkn⟩ : ∃ kn, ptL (ksL [] (a.take i)) a[i]!.1 ⟨#[]⟩ = kn := ⟨_, rfl⟩
        rw [hkn] at CP
        have TK2 : Hid (ksL [] (a.take (i + 1)) = kn) := TK.out.trans hkn
        clear hkn TK HR hlen
        generalize a[i]! = x at *
        go_wp2_with (go_at_call 18; refine Calls.mono CP.out ?_; rintro e w3 ⟨v3, rfl, o3, b3⟩; have R3 : Hid _ := o3.row; have hb3 : Hid _ := b3; clear o3 b3; obtain ⟨ao3, c3, rfl, hc3⟩ := Row.shape R3.out; clear hc3)
        go_roundg (a.length - (i + 1))
        case measure => omega
        case rel => exact ⟨i + 1, ao3, _, c3, rfl, by simp, by omega, Nat.le_refl _, by show Row _ _ _ _ _; rw [TK2.out]; exact R3.out, HBw.out.trans (hb3.out.mono HBw.out.size)⟩
      · have hilz : ¬ (i : Int) < (a.length : Int) := by omega
        obtain rfl : i = a.length := by omega
        have R1 : Hid (Row encP 2 wr (.slice ao n c) (ksL [] a)) := by have := HR.out; rw [List.take_length] at this; exact this
        have hlen1 : (ksL [] a).length ≤ 10000 := Nat.le_trans (ksL_len a []) (by simpa using hl)
        clear HR hki
        generalize ksL [] a = ka at *
        go_wp2
        clear hilz hi
        rename_i zk3 zj zk2 za3 za2 zk1 za1 zk0 za0
        clear za1 zk1 za2 za3 zk2 zj
        (try clear zk3)
        clear hil
        go_loopg [7, 9] b.length (fun kx s7 s9 wr => ∃ (i : Nat) (ao : Option Addr) (n c : Nat), s7 = .slice ao n c ∧ s9 = .int .i64 i ∧ i ≤ b.length ∧ b.length - i ≤ kx ∧ Hid (Row encP 2 wr (.slice ao n c) (ksL ka (b.take i))) ∧ Hid (Below w.heap.size w wr))
        case atStart => exact ⟨0, ao, n, c, rfl, rfl, Nat.zero_le _, Nat.le_refl _, R1, HBw⟩
        case round =>
          clear R1 HBw
          obtain ⟨i, ao, n, c, rfl, rfl, hi, hki, HR, HBw⟩ := hrel
          by_cases hil : i < b.length
          · have hilz : (i : Int) < (b.length : Int) := by omega
            obtain ⟨q, off, rfl, hq, x0, x1⟩ := row_at B3.out i hil HBw.out
            clear hq
            have e1 : wrap64 ((i : Int) + 1) = (i : Int) + 1 := by unfold wrap64; omega
            have TK : Hid _ := ksL_take (ks := ka) hil
            have hlen : Hid ((ksL ka (b.take i)).length ≤ 100000) := ks_bound ka b i hlen1 hl2
            have CP : Hid _ := rput_any (.slice ao n c) (ksL ka (b.take i)) b[i]!.1 ⟨#[]⟩ wr HR.out hlen.out
            obtain ⟨kn, hkn⟩ : ∃ kn, ptL (ksL ka (b.take i)) b[i]!.1 ⟨#[]⟩ = kn := ⟨_, rfl⟩
            rw [hkn] at CP
            have TK2 : Hid (ksL ka (b.take (i + 1)) = kn) := TK.out.trans hkn
            clear hkn TK HR hlen
            generalize b[i]! = x at *
            go_wp2_with (go_at_call 18; refine Calls.mono CP.out ?_; rintro e w3 ⟨v3, rfl, o3, b3⟩; have R3 : Hid _ := o3.row; have hb3 : Hid _ := b3; clear o3 b3; obtain ⟨ao3, c3, rfl, hc3⟩ := Row.shape R3.out; clear hc3)
            go_roundg (b.length - (i + 1))
            case measure => omega
            case rel => exact ⟨i + 1, ao3, _, c3, rfl, by simp, by omega, Nat.le_refl _, by show Row _ _ _ _ _; rw [TK2.out]; exact R3.out, HBw.out.trans (hb3.out.mono HBw.out.size)⟩
          · have hilz : ¬ (i : Int) < (b.length : Int) := by omega
            obtain rfl : i = b.length := by omega
            have R1 : Hid (Row encP 2 wr (.slice ao n c) (ksL ka b)) := by have := HR.out; rw [List.take_length] at this; exact this
            have hlen2 : (ksL ka b).length ≤ 20000 := Nat.le_trans (ksL_len b ka) (Nat.add_le_add hlen1 hl2)
            clear HR hki
            generalize ksL ka b = ks at *
            have HB5 : Hid (Below w.heap.size w wr) := HBw
            have S0 : Hid (Sep wr.heap.size wr wr [DeQ (.slice none 0 0) []]) := by
              show Sep _ _ _ _
              unfold DeQ
              simpa [flatK] using Sep.nilK (e := 27) (k := 5) (Sep.nil (B := wr.heap.size) (w0 := wr) (w := wr) (Nat.le_refl _) (Below.refl _ _))
            obtain ⟨_, _, ek, k1, k2, k3⟩ := id R1.out
            cases ek
            have K3 : Aside (ks ≠ [] → ∃ b off, ao = some ⟨b, off, none⟩ ∧ b < wr.heap.size ∧ CellsK encP 2 wr b off ks) := k3
            clear k3 k1 k2 R1 HBw A3 B3
            go_wp2
            clear hilz hi
            generalize wr = w5 at *
            go_loopg [10, 11] ks.length (fun kx s10 s11 wr => ∃ (i : Nat) (ao4 : Option Addr) (c4 : Nat), s10 = .slice ao4 (dfK a b (ks.take i)).length c4 ∧ s11 = .int .i64 i ∧ i ≤ ks.length ∧ ks.length - i ≤ kx ∧ Hid (Sep w5.heap.size w5 wr [DeQ (.slice ao4 (dfK a b (ks.take i)).length c4) (dfK a b (ks.take i))]))
            case atStart => exact ⟨0, none, 0, rfl, rfl, Nat.zero_le _, Nat.le_refl _, S0⟩
            case round =>
              clear S0
              obtain ⟨i, ao4, c4, rfl, rfl, hi, hki, HS⟩ := hrel
              by_cases hil : i < ks.length
              · have hilz : (i : Int) < (ks.length : Int) := by omega
                obtain ⟨q, off, rfl, hq, x0, x1⟩ := row_at K3.out i hil HS.out.bel
                clear hq
                have e1 : wrap64 ((i : Int) + 1) = (i : Int) + 1 := by unfold wrap64; omega
                have TK : Hid _ := dfK_take (a := a) (b := b) hil
                have hlo : Hid ((dfK a b (ks.take i)).length < 1000000) := df_bound a b ks i hlen2
                have HW5 : Below w.heap.size w wr := HB5.out.trans (HS.out.bel.mono HB5.out.size)
                have G1 : Hid _ := rget_any (.slice aa a.length ca) a ks[i]!.1 wr (Row.to HA.out HW5 (Nat.le_refl _)) (by omega)
                have G2 : Hid _ := rget_any (.slice ab b.length cb) b ks[i]!.1 wr (Row.to HB.out HW5 (Nat.le_refl _)) (by omega)
                have HI2 : Hid (i < ks.length ∧ i ≤ ks.length ∧ ks.length - i ≤ gk) := ⟨hil, hi, hki⟩
                clear hl hl2 hlen1 hlen2 hil hi hki x1
                generalize ks[i]! = x at *
                generalize hoo : dfK a b (ks.take i) = o at *
                clear hoo HW5
                by_cases hf : fdB a x.1 = fdB b x.1
                · by_cases hv : gtV a x.1 = gtV b x.1
                  · have TN : Hid (dfK a b (ks.take (i + 1)) = o) := by
                      have := TK.out
                      unfold dlK at this
                      rw [if_neg (by simp [hf, hv]), List.append_nil] at this
                      exact this
                    rw [hf, hv] at G1
                    clear TK hf hv
                    generalize gtV b x.1 = vb1 at *
                    generalize fdB b x.1 = fb1 at *
                    go_wp2_with fail
                    refine Calls.mono G1.out ?_
                    rintro e w6 ⟨rfl, rfl⟩
                    go_wp2_with fail
                    refine Calls.mono G2.out ?_
                    rintro e w6 ⟨rfl, rfl⟩
                    clear G1 G2 x0
                    go_wp2
                    go_roundg (ks.length - (i + 1))
                    case measure => (have := HI2.out; omega)
                    case rel =>
                      refine ⟨i + 1, ao4, c4, by rw [TN.out], by simp [e1], (by have := HI2.out; omega), Nat.le_refl _, ?_⟩
                      show Sep _ _ _ _
                      rw [TN.out]
                      exact HS.out
                  · have TN : Hid (dfK a b (ks.take (i + 1)) = o ++ [⟨x.1, gtV a x.1, gtV b x.1, fdB a x.1, fdB b x.1⟩]) := by
                      have := TK.out
                      unfold dlK at this
                      rw [if_pos (by simp [hf, hv])] at this
                      exact this
                    have hs : ((gtV a x.1).toList == (gtV b x.1).toList) = false := by rw [str_eq]; exact decide_eq_false hv
                    rw [hf] at G1 TN
                    clear TK hv
                    have SB : Hid (Sep w5.heap.size w5 (wr.alloc (.cells #[.string x.1, .string (gtV a x.1), .string (gtV b x.1), .bool (fdB b x.1), .bool (fdB b x.1)] 27)) (RowK 27 5 (.slice ao4 o.length c4) o.length (flatK encD 5 o.toArray).toList :: Blk wr.heap.size (.cells #[.string x.1, .string (gtV a x.1), .string (gtV b x.1), .bool (fdB b x.1), .bool (fdB b x.1)] 27) :: [])) := (HS.out.addBlk _).up1
                    have HNW : Hid _ := newsAt (news := encD ⟨x.1, gtV a x.1, gtV b x.1, fdB b x.1, fdB b x.1⟩) SB.out.up1.blk
                    have EN : Hid (∀ u ∈ encD ⟨x.1, gtV a x.1, gtV b x.1, fdB b x.1, fdB b x.1⟩, u.oneCell' = true) := encD_one _
                    clear HS hf
                    generalize gtV a x.1 = va1 at *
                    generalize gtV b x.1 = vb1 at *
                    generalize fdB b x.1 = fb1 at *
                    go_wp2_with fail
                    refine Calls.mono G1.out ?_
                    rintro e w6 ⟨rfl, rfl⟩
                    go_wp2_with fail
                    refine Calls.mono G2.out ?_
                    rintro e w6 ⟨rfl, rfl⟩
                    clear G1 G2
                    go_upto_region 21 with fail
                    go_wp2_with (at_builtin; refine appK rfl rfl infoRDelta Tryz.underlying23 rfl (by decide) (by decide) _ rfl SB.out rfl HNW.out rfl EN.out hlo.out ?_; intro ao5 c5 w7 s7; have S7 : Hid (Sep w5.heap.size w5 w7 [DeQ (.slice ao5 (o.length + 1) c5) (o ++ [⟨x.1, va1, vb1, fb1, fb1⟩])]) := Sep.front [_] (l2 := [_]) (snocQ s7); clear s7 SB HNW)
                    go_roundg (ks.length - (i + 1))
                    case measure => (have := HI2.out; omega)
                    case rel =>
                      refine ⟨i + 1, ao5, c5, by rw [TN.out, List.length_append, List.length_singleton], by simp [e1], (by have := HI2.out; omega), Nat.le_refl _, ?_⟩
                      show Sep _ _ _ _
                      rw [TN.out, List.length_append, List.length_singleton]
                      exact S7.out
                · have TN : Hid (dfK a b (ks.take (i + 1)) = o ++ [⟨x.1, gtV a x.1, gtV b x.1, fdB a x.1, fdB b x.1⟩]) := by
                    have := TK.out
                    unfold dlK at this
                    rw [if_pos (by simp [hf])] at this
                    exact this
                  have hs : (fdB a x.1 != fdB b x.1) = true := by rw [bne_iff_ne]; exact hf
                  clear TK hf
                  have SB : Hid (Sep w5.heap.size w5 (wr.alloc (.cells #[.string x.1, .string (gtV a x.1), .string (gtV b x.1), .bool (fdB a x.1), .bool (fdB b x.1)] 27)) (RowK 27 5 (.slice ao4 o.length c4) o.length (flatK encD 5 o.toArray).toList :: Blk wr.heap.size (.cells #[.string x.1, .string (gtV a x.1), .string (gtV b x.1), .bool (fdB a x.1), .bool (fdB b x.1)] 27) :: [])) := (HS.out.addBlk _).up1
                  have HNW : Hid _ := newsAt (news := encD ⟨x.1, gtV a x.1, gtV b x.1, fdB a x.1, fdB b x.1⟩) SB.out.up1.blk
                  have EN : Hid (∀ u ∈ encD ⟨x.1, gtV a x.1, gtV b x.1, fdB a x.1, fdB b x.1⟩, u.oneCell' = true) := encD_one _
                  clear HS
                  generalize gtV a x.1 = va1 at *
                  generalize gtV b x.1 = vb1 at *
                  generalize fdB a x.1 = fa1 at *
                  generalize fdB b x.1 = fb1 at *
                  obtain rfl : fb1 = !fa1 := by cases fa1 <;> cases fb1 <;> simp at hs ⊢
                  clear hs
                  cases fa1
                  all_goals
                    simp only [Bool.not_false, Bool.not_true] at *
                    go_wp2_with fail
                    refine Calls.mono G1.out ?_
                    rintro e w6 ⟨rfl, rfl⟩
                    go_wp2_with fail
                    refine Calls.mono G2.out ?_
                    rintro e w6 ⟨rfl, rfl⟩
                    clear G1 G2
                    go_upto_region 21 with fail
                    go_wp2_with (at_builtin; refine appK rfl rfl infoRDelta Tryz.underlying23 rfl (by decide) (by decide) _ rfl SB.out rfl HNW.out rfl EN.out hlo.out ?_; intro ao5 c5 w7 s7; have S7 : Hid (Sep w5.heap.size w5 w7 [DeQ (.slice ao5 (o.length + 1) c5) (o ++ [_])]) := Sep.front [_] (l2 := [_]) (snocQ s7); clear s7 SB HNW)
                    go_roundg (ks.length - (i + 1))
                    case measure => (have := HI2.out; omega)
                    case rel =>
                      refine ⟨i + 1, ao5, c5, by rw [TN.out, List.length_append, List.length_singleton], by simp [e1], (by have := HI2.out; omega), Nat.le_refl _, ?_⟩
                      show Sep _ _ _ _
                      rw [TN.out, List.length_append, List.length_singleton]
                      exact S7.out
              · have hilz : ¬ (i : Int) < (ks.length : Int) := by omega
                obtain rfl : i = ks.length := by omega
                have S9 : Hid (Sep w5.heap.size w5 wr [DeQ (.slice ao4 (dfK a b ks).length c4) (dfK a b ks)]) := by have := HS.out; rw [List.take_length] at this; exact this
                rw [List.take_length]
                clear HS
                generalize dfK a b ks = R at *
                go_wp2
                go_ret
                rw [E.out]
                exact ⟨ao4, c4, rfl, ownLow (ownBase S9.out) HB5.out.size, HB5.out.trans (S9.out.bel.mono HB5.out.size)⟩
  · have E : Hid (dfL a b = []) := by show _ = _; unfold dfL; rw [if_neg hrr]
    clear A3 B3
    cases ra : rgB a with
    | false =>
      rw [ra] at C1
      have C3 : Hid (∀ u, Below w.heap.size w u → _) := C2.out
      generalize rgB b = rb at *
      go_enter Tryz.func9, Tryz.ntmps9
      go_wp2_with fail
      refine Calls.mono C1.out ?_
      rintro e w1 ⟨rfl, hb1⟩
      have CZ : Hid _ := C2.out w1 hb1
      go_wp2_with (go_at_call 14; refine Calls.mono CZ.out ?_; rintro e w2 ⟨rfl, hb2⟩)
      go_ret
      rw [E.out]
      exact GvQ.nil w _ (hb1.trans (hb2.mono hb1.size))
    | true =>
      have rb : rgB b = false := by cases h : rgB b <;> simp [ra, h] at hrr ⊢
      rw [ra] at C1
      rw [rb] at C2
      go_enter Tryz.func9, Tryz.ntmps9
      go_wp2_with fail
      refine Calls.mono C1.out ?_
      rintro e w1 ⟨rfl, hb1⟩
      have CZ : Hid _ := C2.out w1 hb1
      go_wp2_with (go_at_call 14; refine Calls.mono CZ.out ?_; rintro e w2 ⟨rfl, hb2⟩)
      go_ret
      rw [E.out]
      exact GvQ.nil w _ (hb1.trans (hb2.mono hb1.size))

end Go.Proofs.YtljmkajpjjdnhaaGreatDoor.N

/-
  The walk of package node's Join.
-/
import Derived.Test.YtmamnlphhiaeoaaNdAlone
import Derived.Test.YtmamnlphhiaeoaaNd2
namespace Go.Proofs.Ytmamnlphhiaeoaa
open Go.Shelf Go.RowKit Go.Lib Go.Sort
attribute [local go_sem ↓] Go.wp_at_zero Go.wp_at_succ

theorem flat1S (s : ByteArray) : #[Value.string s] = flatK encS 1 [s].toArray := by
  apply Array.ext'
  have := flatK_snoc encS 1 encS_len [] s
  rw [List.nil_append] at this
  rw [this]
  simp [flatK, encS]
theorem Cl.rowS {w : World} {q : Nat} {s : ByteArray} {t : TypeId} (h : Cl w q #[.string s] t) : Row encS 1 w (.slice (some ⟨q, 0, none⟩) 1 1) [s] := row_block h (flat1S s) rfl
theorem flat1I (s : Int) : #[Value.int .i64 s] = flatK encI 1 [s].toArray := by
  apply Array.ext'
  have := flatK_snoc encI 1 encI_len [] s
  rw [List.nil_append] at this
  rw [this]
  simp [flatK, encI]
theorem Cl.rowI {w : World} {q : Nat} {s : Int} {t : TypeId} (h : Cl w q #[.int .i64 s] t) : Row encI 1 w (.slice (some ⟨q, 0, none⟩) 1 1) [s] := row_block h (flat1I s) rfl
theorem Cl.new3 (w : World) (cs : Array Value) (t : TypeId) (o o' o'' : Obj) : Cl ((((w.alloc o).alloc o').alloc o'').alloc (.cells cs t)) (w.heap.size + 3) cs t := by
  have := Cl.new (((w.alloc o).alloc o').alloc o'') cs t
  rwa [show (((w.alloc o).alloc o').alloc o'').heap.size = w.heap.size + 3 by simp] at this

/-- What holds between the operations of the region. -/
def JJoin (W : World) (p : Nat) (lf : Bool) (key : ByteArray) (vb : Value) (bt : List ByteArray) (ae1 ak1 az1 : Option Addr) (ce1 ck1 cz1 : Nat) (es1 : List En) (ks1 : List Int) (ss1 : List ByteArray) (ae2 ak2 az2 : Option Addr) (ce2 ck2 cz2 : Nat) (es2 : List En) (ks2 : List Int) (ss2 : List ByteArray) (y4 y8 y9 y10 y11 y12 y13 y14 y15 y16 y17 y18 y19 : Value) (f : List Bool) (a : Act) (w : World) : Prop :=
  ∃ f0 f1 f2 f3 f4 f5 f6 f7 f8 f9 f10 f11 f12 f13 f14 f15 f16 f17 f18 f19 f20 f21 f22 : Bool, f = [f0, f1, f2, f3, f4, f5, f6, f7, f8, f9, f10, f11, f12, f13, f14, f15, f16, f17, f18, f19, f20, f21, f22] ∧ f22 = false ∧ ∃ x20 x21 x22 x23 x24 x25 x26 x27 x28 x29 x30 x31 x32 x33 x34 x35 x36 x37 x38 x39 x40 x41 : Value,
    a = { tmps := #[.agg #[.bool lf, .slice ae1 es1.length ce1, .slice ak1 ks1.length ck1, .slice az1 ss1.length cz1], .string key, .agg #[.bool lf, .slice ae2 es2.length ce2, .slice ak2 ks2.length ck2, .slice az2 ss2.length cz2], .pointer (some ⟨p, 0, none⟩), y4, .pointer (some ⟨p + 1, 0, none⟩), .pointer (some ⟨p + 2, 0, none⟩), vb, y8, y9, y10, y11, y12, y13, y14, y15, y16, y17, y18, y19, x20, x21, x22, x23, x24, x25, x26, x27, x28, x29, x30, x31, x32, x33, x34, x35, x36, x37, x38, x39, x40, x41], defers := [] } ∧ (RB W (p + 2) 26 w ∧ Row encS 1 w vb bt) ∧
    Hid (f0 = true → x20 = .pointer (some ⟨p, 0, none⟩)) ∧
    Hid (f1 = true → x21 = .bool lf) ∧
    Hid (f2 = true → x22 = .pointer (some ⟨p, 1, none⟩)) ∧
    Hid (f3 = true → x23 = .slice ae1 es1.length ce1) ∧
    Hid (f4 = true → x24 = .pointer (some ⟨p + 1, 1, none⟩)) ∧
    Hid (f5 = true → x25 = .slice ae2 es2.length ce2) ∧
    Hid (f6 = true → ∃ qq, x26 = .slice (some ⟨qq, 0, none⟩) 2 2 ∧ Cl w qq #[.slice ae1 es1.length ce1, .slice ae2 es2.length ce2] 22) ∧
    Hid (f7 = true → ∃ ao n c, x27 = .slice ao n c ∧ OwnP (p + 3) w x27 (es1 ++ es2)) ∧
    Hid (f8 = true → x28 = .pointer (some ⟨p, 2, none⟩)) ∧
    Hid (f9 = true → x29 = .slice ak1 ks1.length ck1) ∧
    Hid (f10 = true → x30 = .pointer (some ⟨p + 1, 2, none⟩)) ∧
    Hid (f11 = true → x31 = .slice ak2 ks2.length ck2) ∧
    Hid (f12 = true → ∃ qq, x32 = .slice (some ⟨qq, 0, none⟩) 2 2 ∧ Cl w qq #[.slice ak1 ks1.length ck1, .slice ak2 ks2.length ck2] 23) ∧
    Hid (f13 = true → ∃ ao n c, x33 = .slice ao n c ∧ OwnI (p + 3) w x33 (ks1 ++ ks2)) ∧
    Hid (f14 = true → x34 = .pointer (some ⟨p, 3, none⟩)) ∧
    Hid (f15 = true → x35 = .slice az1 ss1.length cz1) ∧
    Hid (f16 = true → x36 = vb) ∧
    Hid (f17 = true → x37 = .pointer (some ⟨p + 1, 3, none⟩)) ∧
    Hid (f18 = true → x38 = .slice az2 ss2.length cz2) ∧
    Hid (f19 = true → ∃ qq, x39 = .slice (some ⟨qq, 0, none⟩) 3 3 ∧ Cl w qq #[.slice az1 ss1.length cz1, vb, .slice az2 ss2.length cz2] 24) ∧
    Hid (f20 = true → ∃ ao n c, x40 = .slice ao n c ∧ OwnS (p + 3) w x40 (ss1 ++ bt ++ ss2)) ∧
    Hid (f21 = true → f7 = true ∧ f13 = true ∧ f20 = true ∧ x41 = .agg #[.bool lf, x27, x33, x40])
theorem JJoin.elim {W : World} {p : Nat} {lf : Bool} {key : ByteArray} {vb : Value} {bt : List ByteArray} {ae1 ak1 az1 : Option Addr} {ce1 ck1 cz1 : Nat} {es1 : List En} {ks1 : List Int} {ss1 : List ByteArray} {ae2 ak2 az2 : Option Addr} {ce2 ck2 cz2 : Nat} {es2 : List En} {ks2 : List Int} {ss2 : List ByteArray} {y4 y8 y9 y10 y11 y12 y13 y14 y15 y16 y17 y18 y19 : Value} {f : List Bool} {a : Act} {w : World} {C : List Bool → Act → World → Prop} (h : JJoin W p lf key vb bt ae1 ak1 az1 ce1 ck1 cz1 es1 ks1 ss1 ae2 ak2 az2 ce2 ck2 cz2 es2 ks2 ss2 y4 y8 y9 y10 y11 y12 y13 y14 y15 y16 y17 y18 y19 f a w)
    (k : ∀ (f0 f1 f2 f3 f4 f5 f6 f7 f8 f9 f10 f11 f12 f13 f14 f15 f16 f17 f18 f19 f20 f21 f22 : Bool) (x20 x21 x22 x23 x24 x25 x26 x27 x28 x29 x30 x31 x32 x33 x34 x35 x36 x37 x38 x39 x40 x41 : Value), f22 = false → (RB W (p + 2) 26 w ∧ Row encS 1 w vb bt) →
      Hid (f0 = true → x20 = .pointer (some ⟨p, 0, none⟩)) →
      Hid (f1 = true → x21 = .bool lf) →
      Hid (f2 = true → x22 = .pointer (some ⟨p, 1, none⟩)) →
      Hid (f3 = true → x23 = .slice ae1 es1.length ce1) →
      Hid (f4 = true → x24 = .pointer (some ⟨p + 1, 1, none⟩)) →
      Hid (f5 = true → x25 = .slice ae2 es2.length ce2) →
      Hid (f6 = true → ∃ qq, x26 = .slice (some ⟨qq, 0, none⟩) 2 2 ∧ Cl w qq #[.slice ae1 es1.length ce1, .slice ae2 es2.length ce2] 22) →
      Hid (f7 = true → ∃ ao n c, x27 = .slice ao n c ∧ OwnP (p + 3) w x27 (es1 ++ es2)) →
      Hid (f8 = true → x28 = .pointer (some ⟨p, 2, none⟩)) →
      Hid (f9 = true → x29 = .slice ak1 ks1.length ck1) →
      Hid (f10 = true → x30 = .pointer (some ⟨p + 1, 2, none⟩)) →
      Hid (f11 = true → x31 = .slice ak2 ks2.length ck2) →
      Hid (f12 = true → ∃ qq, x32 = .slice (some ⟨qq, 0, none⟩) 2 2 ∧ Cl w qq #[.slice ak1 ks1.length ck1, .slice ak2 ks2.length ck2] 23) →
      Hid (f13 = true → ∃ ao n c, x33 = .slice ao n c ∧ OwnI (p + 3) w x33 (ks1 ++ ks2)) →
      Hid (f14 = true → x34 = .pointer (some ⟨p, 3, none⟩)) →
      Hid (f15 = true → x35 = .slice az1 ss1.length cz1) →
      Hid (f16 = true → x36 = vb) →
      Hid (f17 = true → x37 = .pointer (some ⟨p + 1, 3, none⟩)) →
      Hid (f18 = true → x38 = .slice az2 ss2.length cz2) →
      Hid (f19 = true → ∃ qq, x39 = .slice (some ⟨qq, 0, none⟩) 3 3 ∧ Cl w qq #[.slice az1 ss1.length cz1, vb, .slice az2 ss2.length cz2] 24) →
      Hid (f20 = true → ∃ ao n c, x40 = .slice ao n c ∧ OwnS (p + 3) w x40 (ss1 ++ bt ++ ss2)) →
      Hid (f21 = true → f7 = true ∧ f13 = true ∧ f20 = true ∧ x41 = .agg #[.bool lf, x27, x33, x40]) →
      C [f0, f1, f2, f3, f4, f5, f6, f7, f8, f9, f10, f11, f12, f13, f14, f15, f16, f17, f18, f19, f20, f21, f22] { tmps := #[.agg #[.bool lf, .slice ae1 es1.length ce1, .slice ak1 ks1.length ck1, .slice az1 ss1.length cz1], .string key, .agg #[.bool lf, .slice ae2 es2.length ce2, .slice ak2 ks2.length ck2, .slice az2 ss2.length cz2], .pointer (some ⟨p, 0, none⟩), y4, .pointer (some ⟨p + 1, 0, none⟩), .pointer (some ⟨p + 2, 0, none⟩), vb, y8, y9, y10, y11, y12, y13, y14, y15, y16, y17, y18, y19, x20, x21, x22, x23, x24, x25, x26, x27, x28, x29, x30, x31, x32, x33, x34, x35, x36, x37, x38, x39, x40, x41], defers := [] } w) : C f a w :=
  let ⟨f0, f1, f2, f3, f4, f5, f6, f7, f8, f9, f10, f11, f12, f13, f14, f15, f16, f17, f18, f19, f20, f21, f22, ef, e, x20, x21, x22, x23, x24, x25, x26, x27, x28, x29, x30, x31, x32, x33, x34, x35, x36, x37, x38, x39, x40, x41, ea, hB, h0, h1, h2, h3, h4, h5, h6, h7, h8, h9, h10, h11, h12, h13, h14, h15, h16, h17, h18, h19, h20, h21⟩ := h
  ef ▸ ea ▸ k f0 f1 f2 f3 f4 f5 f6 f7 f8 f9 f10 f11 f12 f13 f14 f15 f16 f17 f18 f19 f20 f21 f22 x20 x21 x22 x23 x24 x25 x26 x27 x28 x29 x30 x31 x32 x33 x34 x35 x36 x37 x38 x39 x40 x41 e hB h0 h1 h2 h3 h4 h5 h6 h7 h8 h9 h10 h11 h12 h13 h14 h15 h16 h17 h18 h19 h20 h21

set_option maxHeartbeats 16000000 in
set_option maxRecDepth 100000 in
theorem join_leaf (key : ByteArray) (es1 es2 : List En) (ks1 ks2 : List Int) (ss1 ss2 : List ByteArray) (ve1 vk1 vs1 ve2 vk2 vs2 : Value) (w : World) (h1 : NdR w ve1 vk1 vs1 ⟨true, es1, ks1, ss1⟩) (h2 : NdR w ve2 vk2 vs2 ⟨true, es2, ks2, ss2⟩) (hm1 : SmL ⟨true, es1, ks1, ss1⟩) (hm2 : SmL ⟨true, es2, ks2, ss2⟩) :
    Calls Try.prog 24 #[.agg #[.bool true, ve1, vk1, vs1], .string key, .agg #[.bool true, ve2, vk2, vs2]] w fun e w' => ∃ ve' vk' vs', e = .returned (.agg #[.bool true, ve', vk', vs']) ∧ NdO w.heap.size w' ve' vk' vs' ⟨true, es1 ++ es2, ks1 ++ ks2, ss1 ++ [] ++ ss2⟩ ∧ Below w.heap.size w w' := by
  obtain ⟨he1, hk1, hs1⟩ := h1
  obtain ⟨he2, hk2, hs2⟩ := h2
  obtain ⟨s1, s2, s3⟩ := hm1
  obtain ⟨r1, r2, r3⟩ := hm2
  simp only at he1 hk1 hs1 he2 hk2 hs2 s1 s2 s3 r1 r2 r3
  obtain ⟨ae1, ce1, rfl, _⟩ := rowShape he1
  obtain ⟨ak1, ck1, rfl, _⟩ := rowShape hk1
  obtain ⟨az1, cz1, rfl, _⟩ := rowShape hs1
  obtain ⟨ae2, ce2, rfl, _⟩ := rowShape he2
  obtain ⟨ak2, ck2, rfl, _⟩ := rowShape hk2
  obtain ⟨az2, cz2, rfl, _⟩ := rowShape hs2
  have K1 : Cl (((w.alloc (.cells #[.bool true, .slice ae1 es1.length ce1, .slice ak1 ks1.length ck1, .slice az1 ss1.length cz1] 26)).alloc (.cells #[.bool true, .slice ae2 es2.length ce2, .slice ak2 ks2.length ck2, .slice az2 ss2.length cz2] 26)).alloc (.cells #[.bool false, .slice none 0 0, .slice none 0 0, .slice none 0 0] 26)) w.heap.size #[.bool true, .slice ae1 es1.length ce1, .slice ak1 ks1.length ck1, .slice az1 ss1.length cz1] 26 := ((Cl.new0 _ _ _).alloc _).alloc _
  have K2 : Cl (((w.alloc (.cells #[.bool true, .slice ae1 es1.length ce1, .slice ak1 ks1.length ck1, .slice az1 ss1.length cz1] 26)).alloc (.cells #[.bool true, .slice ae2 es2.length ce2, .slice ak2 ks2.length ck2, .slice az2 ss2.length cz2] 26)).alloc (.cells #[.bool false, .slice none 0 0, .slice none 0 0, .slice none 0 0] 26)) (w.heap.size + 1) #[.bool true, .slice ae2 es2.length ce2, .slice ak2 ks2.length ck2, .slice az2 ss2.length cz2] 26 := (Cl.new1 _ _ _ _).alloc _
  have K3 : Cl (((w.alloc (.cells #[.bool true, .slice ae1 es1.length ce1, .slice ak1 ks1.length ck1, .slice az1 ss1.length cz1] 26)).alloc (.cells #[.bool true, .slice ae2 es2.length ce2, .slice ak2 ks2.length ck2, .slice az2 ss2.length cz2] 26)).alloc (.cells #[.bool false, .slice none 0 0, .slice none 0 0, .slice none 0 0] 26)) (w.heap.size + 2) #[.bool false, .slice none 0 0, .slice none 0 0, .slice none 0 0] 26 := Cl.new2 _ _ _ _ _
  have BW : Hid (Below w.heap.size w (((w.alloc (.cells #[.bool true, .slice ae1 es1.length ce1, .slice ak1 ks1.length ck1, .slice az1 ss1.length cz1] 26)).alloc (.cells #[.bool true, .slice ae2 es2.length ce2, .slice ak2 ks2.length ck2, .slice az2 ss2.length cz2] 26)).alloc (.cells #[.bool false, .slice none 0 0, .slice none 0 0, .slice none 0 0] 26))) := (belAlloc _ (belAlloc _ (belAlloc _ (Below.refl _ _))))
  have RT0 : Row encS 1 (((w.alloc (.cells #[.bool true, .slice ae1 es1.length ce1, .slice ak1 ks1.length ck1, .slice az1 ss1.length cz1] 26)).alloc (.cells #[.bool true, .slice ae2 es2.length ce2, .slice ak2 ks2.length ck2, .slice az2 ss2.length cz2] 26)).alloc (.cells #[.bool false, .slice none 0 0, .slice none 0 0, .slice none 0 0] 26)) (.slice none 0 0) [] := rowNil
  go_enter Try.func24, Try.ntmps24
  go_wp2_with fail
  generalize (((w.alloc (.cells #[.bool true, .slice ae1 es1.length ce1, .slice ak1 ks1.length ck1, .slice az1 ss1.length cz1] 26)).alloc (.cells #[.bool true, .slice ae2 es2.length ce2, .slice ak2 ks2.length ck2, .slice az2 ss2.length cz2] 26)).alloc (.cells #[.bool false, .slice none 0 0, .slice none 0 0, .slice none 0 0] 26)) = W at *
  obtain ⟨p, hp⟩ : ∃ p, w.heap.size = p := ⟨_, rfl⟩
  rw [hp] at K1 K2 K3 BW ⊢
  (try rw [hp] at RT0)
  have RT : Hid (Row encS 1 W.drew (.slice none 0 0) []) := RT0.below (Below.refl _ W).drew
  have R0 : Hid (RB W (p + 2) 26 W.drew) := ⟨(Below.refl _ W).drew, _, _, _, _, K3⟩
  have BX : ∀ X, RB W (p + 2) 26 X → Below p w X := fun X hX => BW.out.trans (hX.1.mono (by omega))
  have RE1 : Hid (∀ X, RB W (p + 2) 26 X → Row encP 2 X (.slice ae1 es1.length ce1) es1) := fun X hX => he1.below (by rw [hp]; exact BX X hX)
  have RK1 : Hid (∀ X, RB W (p + 2) 26 X → Row encI 1 X (.slice ak1 ks1.length ck1) ks1) := fun X hX => hk1.below (by rw [hp]; exact BX X hX)
  have RS1 : Hid (∀ X, RB W (p + 2) 26 X → Row encS 1 X (.slice az1 ss1.length cz1) ss1) := fun X hX => hs1.below (by rw [hp]; exact BX X hX)
  have RE2 : Hid (∀ X, RB W (p + 2) 26 X → Row encP 2 X (.slice ae2 es2.length ce2) es2) := fun X hX => he2.below (by rw [hp]; exact BX X hX)
  have RK2 : Hid (∀ X, RB W (p + 2) 26 X → Row encI 1 X (.slice ak2 ks2.length ck2) ks2) := fun X hX => hk2.below (by rw [hp]; exact BX X hX)
  have RS2 : Hid (∀ X, RB W (p + 2) 26 X → Row encS 1 X (.slice az2 ss2.length cz2) ss2) := fun X hX => hs2.below (by rw [hp]; exact BX X hX)
  have MA : Hid (∀ X, RB W (p + 2) 26 X → X.cell? ⟨p, 0, none⟩ = some (.bool true) ∧ X.cell? ⟨p, 1, none⟩ = some (.slice ae1 es1.length ce1) ∧ X.cell? ⟨p, 2, none⟩ = some (.slice ak1 ks1.length ck1) ∧ X.cell? ⟨p, 3, none⟩ = some (.slice az1 ss1.length cz1)) := fun X hX => (K1.below hX.1 (by omega)).four
  have MB : Hid (∀ X, RB W (p + 2) 26 X → X.cell? ⟨p + 1, 0, none⟩ = some (.bool true) ∧ X.cell? ⟨p + 1, 1, none⟩ = some (.slice ae2 es2.length ce2) ∧ X.cell? ⟨p + 1, 2, none⟩ = some (.slice ak2 ks2.length ck2) ∧ X.cell? ⟨p + 1, 3, none⟩ = some (.slice az2 ss2.length cz2)) := fun X hX => (K2.below hX.1 (by omega)).four
  have HBX : Hid (∀ X, RB W (p + 2) 26 X → Below p w X) := BX
  clear he1 hk1 hs1 he2 hk2 hs2 K1 K2 K3 BW BX RT0
  refine region_inv 22 (JJoin W p true key (.slice none 0 0) [] ae1 ak1 az1 ce1 ck1 cz1 es1 ks1 ss1 ae2 ak2 az2 ce2 ck2 cz2 es2 ks2 ss2 _ _ _ _ _ _ _ _ _ _ _ _ _) (by kernel_rfl) (by kernel_rfl) (by kernel_rfl) ⟨false, false, false, false, false, false, false, false, false, false, false, false, false, false, false, false, false, false, false, false, false, false, false, rfl, rfl, _, _, _, _, _, _, _, _, _, _, _, _, _, _, _, _, _, _, _, _, _, _, rfl, ⟨R0.out, RT.out⟩, (fun h => by cases h), (fun h => by cases h), (fun h => by cases h), (fun h => by cases h), (fun h => by cases h), (fun h => by cases h), (fun h => by cases h), (fun h => by cases h), (fun h => by cases h), (fun h => by cases h), (fun h => by cases h), (fun h => by cases h), (fun h => by cases h), (fun h => by cases h), (fun h => by cases h), (fun h => by cases h), (fun h => by cases h), (fun h => by cases h), (fun h => by cases h), (fun h => by cases h), (fun h => by cases h), (fun h => by cases h)⟩ ?_ ?_ ?_
  · intro i f a w' hne hl hJ
    refine JJoin.elim hJ (C := fun f a w' => i ∈ Region.ready .any _ f.toArray → wpOp _ _ _ i (fun a' w'' => JJoin W p true key (.slice none 0 0) [] ae1 ak1 az1 ce1 ck1 cz1 es1 ks1 ss1 ae2 ak2 az2 ce2 ck2 cz2 es2 ks2 ss2 _ _ _ _ _ _ _ _ _ _ _ _ _ (f.set i true) a' w'') a w') ?_
    clear hJ hl f a
    intro f0 f1 f2 f3 f4 f5 f6 f7 f8 f9 f10 f11 f12 f13 f14 f15 f16 f17 f18 f19 f20 f21 f22 x20 x21 x22 x23 x24 x25 x26 x27 x28 x29 x30 x31 x32 x33 x34 x35 x36 x37 x38 x39 x40 x41 e22 hB h0 h1 h2 h3 h4 h5 h6 h7 h8 h9 h10 h11 h12 h13 h14 h15 h16 h17 h18 h19 h20 h21 hi
    obtain ⟨hlt, hun, _⟩ := ready_mem hi
    have hlt' : i < 23 := hlt
    clear hlt
    rcases (by omega : i = 0 ∨ i = 1 ∨ i = 2 ∨ i = 3 ∨ i = 4 ∨ i = 5 ∨ i = 6 ∨ i = 7 ∨ i = 8 ∨ i = 9 ∨ i = 10 ∨ i = 11 ∨ i = 12 ∨ i = 13 ∨ i = 14 ∨ i = 15 ∨ i = 16 ∨ i = 17 ∨ i = 18 ∨ i = 19 ∨ i = 20 ∨ i = 21) with rfl | rfl | rfl | rfl | rfl | rfl | rfl | rfl | rfl | rfl | rfl | rfl | rfl | rfl | rfl | rfl | rfl | rfl | rfl | rfl | rfl | rfl
    · have un : f0 = false := hun
      clear hun
      clear hi hne hlt'
      refine wpOp_step rfl (fun K hK => ?_)
      have HK : Shut _ := hK
      clear hK
      go_simp
      refine HK.out _ _ ?_
      exact ⟨true, f1, f2, f3, f4, f5, f6, f7, f8, f9, f10, f11, f12, f13, f14, f15, f16, f17, f18, f19, f20, f21, f22, rfl, e22, _, _, _, _, _, _, _, _, _, _, _, _, _, _, _, _, _, _, _, _, _, _, rfl, hB, (fun _ => rfl), h1, h2, h3, h4, h5, h6, h7, h8, h9, h10, h11, h12, h13, h14, h15, h16, h17, h18, h19, h20, h21⟩
    · have un : f1 = false := hun
      clear hun
      have d0 : f0 = true := ready_dep 0 hi (by kernel_rfl)
      have y0 := h0.out d0
      subst y0
      clear hi hne hlt'
      have cell := (MA.out _ hB.1).1
      refine wpOp_step rfl (fun K hK => ?_)
      have HK : Shut _ := hK
      clear hK
      go_simp
      refine HK.out _ _ ?_
      exact ⟨f0, true, f2, f3, f4, f5, f6, f7, f8, f9, f10, f11, f12, f13, f14, f15, f16, f17, f18, f19, f20, f21, f22, rfl, e22, _, _, _, _, _, _, _, _, _, _, _, _, _, _, _, _, _, _, _, _, _, _, rfl, hB, h0, (fun _ => rfl), h2, h3, h4, h5, h6, h7, h8, h9, h10, h11, h12, h13, h14, h15, h16, h17, h18, h19, h20, h21⟩
    · have un : f2 = false := hun
      clear hun
      clear hi hne hlt'
      refine wpOp_step rfl (fun K hK => ?_)
      have HK : Shut _ := hK
      clear hK
      go_simp
      refine HK.out _ _ ?_
      exact ⟨f0, f1, true, f3, f4, f5, f6, f7, f8, f9, f10, f11, f12, f13, f14, f15, f16, f17, f18, f19, f20, f21, f22, rfl, e22, _, _, _, _, _, _, _, _, _, _, _, _, _, _, _, _, _, _, _, _, _, _, rfl, hB, h0, h1, (fun _ => rfl), h3, h4, h5, h6, h7, h8, h9, h10, h11, h12, h13, h14, h15, h16, h17, h18, h19, h20, h21⟩
    · have un : f3 = false := hun
      clear hun
      have d2 : f2 = true := ready_dep 2 hi (by kernel_rfl)
      have y2 := h2.out d2
      subst y2
      clear hi hne hlt'
      have cell := (MA.out _ hB.1).2.1
      refine wpOp_step rfl (fun K hK => ?_)
      have HK : Shut _ := hK
      clear hK
      go_simp
      refine HK.out _ _ ?_
      exact ⟨f0, f1, f2, true, f4, f5, f6, f7, f8, f9, f10, f11, f12, f13, f14, f15, f16, f17, f18, f19, f20, f21, f22, rfl, e22, _, _, _, _, _, _, _, _, _, _, _, _, _, _, _, _, _, _, _, _, _, _, rfl, hB, h0, h1, h2, (fun _ => rfl), h4, h5, h6, h7, h8, h9, h10, h11, h12, h13, h14, h15, h16, h17, h18, h19, h20, h21⟩
    · have un : f4 = false := hun
      clear hun
      clear hi hne hlt'
      refine wpOp_step rfl (fun K hK => ?_)
      have HK : Shut _ := hK
      clear hK
      go_simp
      refine HK.out _ _ ?_
      exact ⟨f0, f1, f2, f3, true, f5, f6, f7, f8, f9, f10, f11, f12, f13, f14, f15, f16, f17, f18, f19, f20, f21, f22, rfl, e22, _, _, _, _, _, _, _, _, _, _, _, _, _, _, _, _, _, _, _, _, _, _, rfl, hB, h0, h1, h2, h3, (fun _ => rfl), h5, h6, h7, h8, h9, h10, h11, h12, h13, h14, h15, h16, h17, h18, h19, h20, h21⟩
    · have un : f5 = false := hun
      clear hun
      have d4 : f4 = true := ready_dep 4 hi (by kernel_rfl)
      have y4 := h4.out d4
      subst y4
      clear hi hne hlt'
      have cell := (MB.out _ hB.1).2.1
      refine wpOp_step rfl (fun K hK => ?_)
      have HK : Shut _ := hK
      clear hK
      go_simp
      refine HK.out _ _ ?_
      exact ⟨f0, f1, f2, f3, f4, true, f6, f7, f8, f9, f10, f11, f12, f13, f14, f15, f16, f17, f18, f19, f20, f21, f22, rfl, e22, _, _, _, _, _, _, _, _, _, _, _, _, _, _, _, _, _, _, _, _, _, _, rfl, hB, h0, h1, h2, h3, h4, (fun _ => rfl), h6, h7, h8, h9, h10, h11, h12, h13, h14, h15, h16, h17, h18, h19, h20, h21⟩
    · have un : f6 = false := hun
      clear hun
      have d3 : f3 = true := ready_dep 3 hi (by kernel_rfl)
      have y3 := h3.out d3
      subst y3
      have d5 : f5 = true := ready_dep 5 hi (by kernel_rfl)
      have y5 := h5.out d5
      subst y5
      clear hi hne hlt'
      refine wpOp_step rfl (fun K hK => ?_)
      have HK : Shut _ := hK
      clear hK
      go_simp
      refine HK.out _ _ ?_
      exact ⟨f0, f1, f2, f3, f4, f5, true, f7, f8, f9, f10, f11, f12, f13, f14, f15, f16, f17, f18, f19, f20, f21, f22, rfl, e22, _, _, _, _, _, _, _, _, _, _, _, _, _, _, _, _, _, _, _, _, _, _, rfl, ⟨RB.alloc hB.1 _, hB.2.below (belAlloc _ (Below.refl _ _))⟩, h0, h1, h2, h3, h4, h5, (fun _ => ⟨_, rfl, Cl.new _ _ _⟩), (fun d => let ⟨ao, n, c, e, o⟩ := h7.out d; ⟨ao, n, c, e, ownsRow_below o (belAlloc _ (Below.refl _ _))⟩), h8, h9, h10, h11, (fun d => let ⟨q, e, c⟩ := h12.out d; ⟨q, e, Cl.on c (belAlloc _ (Below.refl _ _))⟩), (fun d => let ⟨ao, n, c, e, o⟩ := h13.out d; ⟨ao, n, c, e, ownsRow_below o (belAlloc _ (Below.refl _ _))⟩), h14, h15, h16, h17, h18, (fun d => let ⟨q, e, c⟩ := h19.out d; ⟨q, e, Cl.on c (belAlloc _ (Below.refl _ _))⟩), (fun d => let ⟨ao, n, c, e, o⟩ := h20.out d; ⟨ao, n, c, e, ownsRow_below o (belAlloc _ (Below.refl _ _))⟩), h21⟩
    · have un : f7 = false := hun
      clear hun
      have d6 : f6 = true := ready_dep 6 hi (by kernel_rfl)
      obtain ⟨q6, y6, c6⟩ := h6.out d6
      subst y6
      clear hi hne hlt'
      refine wpOp_step rfl (fun K hK => ?_)
      have HK : Shut _ := hK
      clear hK
      go_simp
      refine Calls.mono (joinedE2 q6 22 (.slice ae1 es1.length ce1) (.slice ae2 es2.length ce2) es1 es2 w' c6 (RE1.out _ hB.1) (RE2.out _ hB.1) (by omega)) ?_
      rintro e w1 ⟨ao, nn, cc, rfl, ow, b1⟩
      refine HK.out _ _ ?_
      exact ⟨f0, f1, f2, f3, f4, f5, f6, true, f8, f9, f10, f11, f12, f13, f14, f15, f16, f17, f18, f19, f20, f21, f22, rfl, e22, _, _, _, _, _, _, _, _, _, _, _, _, _, _, _, _, _, _, _, _, _, _, rfl, ⟨RB.call hB.1 b1, hB.2.below b1⟩, h0, h1, h2, h3, h4, h5, (fun d => let ⟨q, e, c⟩ := h6.out d; ⟨q, e, Cl.on c (b1)⟩), (fun _ => ⟨ao, nn, cc, rfl, ownMono ow (RB.lt hB.1)⟩), h8, h9, h10, h11, (fun d => let ⟨q, e, c⟩ := h12.out d; ⟨q, e, Cl.on c (b1)⟩), (fun d => let ⟨ao, n, c, e, o⟩ := h13.out d; ⟨ao, n, c, e, ownsRow_below o (b1)⟩), h14, h15, h16, h17, h18, (fun d => let ⟨q, e, c⟩ := h19.out d; ⟨q, e, Cl.on c (b1)⟩), (fun d => let ⟨ao, n, c, e, o⟩ := h20.out d; ⟨ao, n, c, e, ownsRow_below o (b1)⟩), (fun d => by have e := (h21.out d).1; rw [un] at e; cases e)⟩
    · have un : f8 = false := hun
      clear hun
      clear hi hne hlt'
      refine wpOp_step rfl (fun K hK => ?_)
      have HK : Shut _ := hK
      clear hK
      go_simp
      refine HK.out _ _ ?_
      exact ⟨f0, f1, f2, f3, f4, f5, f6, f7, true, f9, f10, f11, f12, f13, f14, f15, f16, f17, f18, f19, f20, f21, f22, rfl, e22, _, _, _, _, _, _, _, _, _, _, _, _, _, _, _, _, _, _, _, _, _, _, rfl, hB, h0, h1, h2, h3, h4, h5, h6, h7, (fun _ => rfl), h9, h10, h11, h12, h13, h14, h15, h16, h17, h18, h19, h20, h21⟩
    · have un : f9 = false := hun
      clear hun
      have d8 : f8 = true := ready_dep 8 hi (by kernel_rfl)
      have y8 := h8.out d8
      subst y8
      clear hi hne hlt'
      have cell := (MA.out _ hB.1).2.2.1
      refine wpOp_step rfl (fun K hK => ?_)
      have HK : Shut _ := hK
      clear hK
      go_simp
      refine HK.out _ _ ?_
      exact ⟨f0, f1, f2, f3, f4, f5, f6, f7, f8, true, f10, f11, f12, f13, f14, f15, f16, f17, f18, f19, f20, f21, f22, rfl, e22, _, _, _, _, _, _, _, _, _, _, _, _, _, _, _, _, _, _, _, _, _, _, rfl, hB, h0, h1, h2, h3, h4, h5, h6, h7, h8, (fun _ => rfl), h10, h11, h12, h13, h14, h15, h16, h17, h18, h19, h20, h21⟩
    · have un : f10 = false := hun
      clear hun
      clear hi hne hlt'
      refine wpOp_step rfl (fun K hK => ?_)
      have HK : Shut _ := hK
      clear hK
      go_simp
      refine HK.out _ _ ?_
      exact ⟨f0, f1, f2, f3, f4, f5, f6, f7, f8, f9, true, f11, f12, f13, f14, f15, f16, f17, f18, f19, f20, f21, f22, rfl, e22, _, _, _, _, _, _, _, _, _, _, _, _, _, _, _, _, _, _, _, _, _, _, rfl, hB, h0, h1, h2, h3, h4, h5, h6, h7, h8, h9, (fun _ => rfl), h11, h12, h13, h14, h15, h16, h17, h18, h19, h20, h21⟩
    · have un : f11 = false := hun
      clear hun
      have d10 : f10 = true := ready_dep 10 hi (by kernel_rfl)
      have y10 := h10.out d10
      subst y10
      clear hi hne hlt'
      have cell := (MB.out _ hB.1).2.2.1
      refine wpOp_step rfl (fun K hK => ?_)
      have HK : Shut _ := hK
      clear hK
      go_simp
      refine HK.out _ _ ?_
      exact ⟨f0, f1, f2, f3, f4, f5, f6, f7, f8, f9, f10, true, f12, f13, f14, f15, f16, f17, f18, f19, f20, f21, f22, rfl, e22, _, _, _, _, _, _, _, _, _, _, _, _, _, _, _, _, _, _, _, _, _, _, rfl, hB, h0, h1, h2, h3, h4, h5, h6, h7, h8, h9, h10, (fun _ => rfl), h12, h13, h14, h15, h16, h17, h18, h19, h20, h21⟩
    · have un : f12 = false := hun
      clear hun
      have d9 : f9 = true := ready_dep 9 hi (by kernel_rfl)
      have y9 := h9.out d9
      subst y9
      have d11 : f11 = true := ready_dep 11 hi (by kernel_rfl)
      have y11 := h11.out d11
      subst y11
      clear hi hne hlt'
      refine wpOp_step rfl (fun K hK => ?_)
      have HK : Shut _ := hK
      clear hK
      go_simp
      refine HK.out _ _ ?_
      exact ⟨f0, f1, f2, f3, f4, f5, f6, f7, f8, f9, f10, f11, true, f13, f14, f15, f16, f17, f18, f19, f20, f21, f22, rfl, e22, _, _, _, _, _, _, _, _, _, _, _, _, _, _, _, _, _, _, _, _, _, _, rfl, ⟨RB.alloc hB.1 _, hB.2.below (belAlloc _ (Below.refl _ _))⟩, h0, h1, h2, h3, h4, h5, (fun d => let ⟨q, e, c⟩ := h6.out d; ⟨q, e, Cl.on c (belAlloc _ (Below.refl _ _))⟩), (fun d => let ⟨ao, n, c, e, o⟩ := h7.out d; ⟨ao, n, c, e, ownsRow_below o (belAlloc _ (Below.refl _ _))⟩), h8, h9, h10, h11, (fun _ => ⟨_, rfl, Cl.new _ _ _⟩), (fun d => let ⟨ao, n, c, e, o⟩ := h13.out d; ⟨ao, n, c, e, ownsRow_below o (belAlloc _ (Below.refl _ _))⟩), h14, h15, h16, h17, h18, (fun d => let ⟨q, e, c⟩ := h19.out d; ⟨q, e, Cl.on c (belAlloc _ (Below.refl _ _))⟩), (fun d => let ⟨ao, n, c, e, o⟩ := h20.out d; ⟨ao, n, c, e, ownsRow_below o (belAlloc _ (Below.refl _ _))⟩), h21⟩
    · have un : f13 = false := hun
      clear hun
      have d12 : f12 = true := ready_dep 12 hi (by kernel_rfl)
      obtain ⟨q12, y12, c12⟩ := h12.out d12
      subst y12
      clear hi hne hlt'
      refine wpOp_step rfl (fun K hK => ?_)
      have HK : Shut _ := hK
      clear hK
      go_simp
      refine Calls.mono (joinedI2 q12 23 (.slice ak1 ks1.length ck1) (.slice ak2 ks2.length ck2) ks1 ks2 w' c12 (RK1.out _ hB.1) (RK2.out _ hB.1) (by omega)) ?_
      rintro e w1 ⟨ao, nn, cc, rfl, ow, b1⟩
      refine HK.out _ _ ?_
      exact ⟨f0, f1, f2, f3, f4, f5, f6, f7, f8, f9, f10, f11, f12, true, f14, f15, f16, f17, f18, f19, f20, f21, f22, rfl, e22, _, _, _, _, _, _, _, _, _, _, _, _, _, _, _, _, _, _, _, _, _, _, rfl, ⟨RB.call hB.1 b1, hB.2.below b1⟩, h0, h1, h2, h3, h4, h5, (fun d => let ⟨q, e, c⟩ := h6.out d; ⟨q, e, Cl.on c (b1)⟩), (fun d => let ⟨ao, n, c, e, o⟩ := h7.out d; ⟨ao, n, c, e, ownsRow_below o (b1)⟩), h8, h9, h10, h11, (fun d => let ⟨q, e, c⟩ := h12.out d; ⟨q, e, Cl.on c (b1)⟩), (fun _ => ⟨ao, nn, cc, rfl, ownMono ow (RB.lt hB.1)⟩), h14, h15, h16, h17, h18, (fun d => let ⟨q, e, c⟩ := h19.out d; ⟨q, e, Cl.on c (b1)⟩), (fun d => let ⟨ao, n, c, e, o⟩ := h20.out d; ⟨ao, n, c, e, ownsRow_below o (b1)⟩), (fun d => by have e := (h21.out d).2.1; rw [un] at e; cases e)⟩
    · have un : f14 = false := hun
      clear hun
      clear hi hne hlt'
      refine wpOp_step rfl (fun K hK => ?_)
      have HK : Shut _ := hK
      clear hK
      go_simp
      refine HK.out _ _ ?_
      exact ⟨f0, f1, f2, f3, f4, f5, f6, f7, f8, f9, f10, f11, f12, f13, true, f15, f16, f17, f18, f19, f20, f21, f22, rfl, e22, _, _, _, _, _, _, _, _, _, _, _, _, _, _, _, _, _, _, _, _, _, _, rfl, hB, h0, h1, h2, h3, h4, h5, h6, h7, h8, h9, h10, h11, h12, h13, (fun _ => rfl), h15, h16, h17, h18, h19, h20, h21⟩
    · have un : f15 = false := hun
      clear hun
      have d14 : f14 = true := ready_dep 14 hi (by kernel_rfl)
      have y14 := h14.out d14
      subst y14
      clear hi hne hlt'
      have cell := (MA.out _ hB.1).2.2.2
      refine wpOp_step rfl (fun K hK => ?_)
      have HK : Shut _ := hK
      clear hK
      go_simp
      refine HK.out _ _ ?_
      exact ⟨f0, f1, f2, f3, f4, f5, f6, f7, f8, f9, f10, f11, f12, f13, f14, true, f16, f17, f18, f19, f20, f21, f22, rfl, e22, _, _, _, _, _, _, _, _, _, _, _, _, _, _, _, _, _, _, _, _, _, _, rfl, hB, h0, h1, h2, h3, h4, h5, h6, h7, h8, h9, h10, h11, h12, h13, h14, (fun _ => rfl), h16, h17, h18, h19, h20, h21⟩
    · have un : f16 = false := hun
      clear hun
      clear hi hne hlt'
      refine wpOp_step rfl (fun K hK => ?_)
      have HK : Shut _ := hK
      clear hK
      go_simp
      refine HK.out _ _ ?_
      exact ⟨f0, f1, f2, f3, f4, f5, f6, f7, f8, f9, f10, f11, f12, f13, f14, f15, true, f17, f18, f19, f20, f21, f22, rfl, e22, _, _, _, _, _, _, _, _, _, _, _, _, _, _, _, _, _, _, _, _, _, _, rfl, hB, h0, h1, h2, h3, h4, h5, h6, h7, h8, h9, h10, h11, h12, h13, h14, h15, (fun _ => rfl), h17, h18, h19, h20, h21⟩
    · have un : f17 = false := hun
      clear hun
      clear hi hne hlt'
      refine wpOp_step rfl (fun K hK => ?_)
      have HK : Shut _ := hK
      clear hK
      go_simp
      refine HK.out _ _ ?_
      exact ⟨f0, f1, f2, f3, f4, f5, f6, f7, f8, f9, f10, f11, f12, f13, f14, f15, f16, true, f18, f19, f20, f21, f22, rfl, e22, _, _, _, _, _, _, _, _, _, _, _, _, _, _, _, _, _, _, _, _, _, _, rfl, hB, h0, h1, h2, h3, h4, h5, h6, h7, h8, h9, h10, h11, h12, h13, h14, h15, h16, (fun _ => rfl), h18, h19, h20, h21⟩
    · have un : f18 = false := hun
      clear hun
      have d17 : f17 = true := ready_dep 17 hi (by kernel_rfl)
      have y17 := h17.out d17
      subst y17
      clear hi hne hlt'
      have cell := (MB.out _ hB.1).2.2.2
      refine wpOp_step rfl (fun K hK => ?_)
      have HK : Shut _ := hK
      clear hK
      go_simp
      refine HK.out _ _ ?_
      exact ⟨f0, f1, f2, f3, f4, f5, f6, f7, f8, f9, f10, f11, f12, f13, f14, f15, f16, f17, true, f19, f20, f21, f22, rfl, e22, _, _, _, _, _, _, _, _, _, _, _, _, _, _, _, _, _, _, _, _, _, _, rfl, hB, h0, h1, h2, h3, h4, h5, h6, h7, h8, h9, h10, h11, h12, h13, h14, h15, h16, h17, (fun _ => rfl), h19, h20, h21⟩
    · have un : f19 = false := hun
      clear hun
      have d15 : f15 = true := ready_dep 15 hi (by kernel_rfl)
      have y15 := h15.out d15
      subst y15
      have d16 : f16 = true := ready_dep 16 hi (by kernel_rfl)
      have y16 := h16.out d16
      subst y16
      have d18 : f18 = true := ready_dep 18 hi (by kernel_rfl)
      have y18 := h18.out d18
      subst y18
      clear hi hne hlt'
      refine wpOp_step rfl (fun K hK => ?_)
      have HK : Shut _ := hK
      clear hK
      go_simp
      refine HK.out _ _ ?_
      exact ⟨f0, f1, f2, f3, f4, f5, f6, f7, f8, f9, f10, f11, f12, f13, f14, f15, f16, f17, f18, true, f20, f21, f22, rfl, e22, _, _, _, _, _, _, _, _, _, _, _, _, _, _, _, _, _, _, _, _, _, _, rfl, ⟨RB.alloc hB.1 _, hB.2.below (belAlloc _ (Below.refl _ _))⟩, h0, h1, h2, h3, h4, h5, (fun d => let ⟨q, e, c⟩ := h6.out d; ⟨q, e, Cl.on c (belAlloc _ (Below.refl _ _))⟩), (fun d => let ⟨ao, n, c, e, o⟩ := h7.out d; ⟨ao, n, c, e, ownsRow_below o (belAlloc _ (Below.refl _ _))⟩), h8, h9, h10, h11, (fun d => let ⟨q, e, c⟩ := h12.out d; ⟨q, e, Cl.on c (belAlloc _ (Below.refl _ _))⟩), (fun d => let ⟨ao, n, c, e, o⟩ := h13.out d; ⟨ao, n, c, e, ownsRow_below o (belAlloc _ (Below.refl _ _))⟩), h14, h15, h16, h17, h18, (fun _ => ⟨_, rfl, Cl.new _ _ _⟩), (fun d => let ⟨ao, n, c, e, o⟩ := h20.out d; ⟨ao, n, c, e, ownsRow_below o (belAlloc _ (Below.refl _ _))⟩), h21⟩
    · have un : f20 = false := hun
      clear hun
      have d19 : f19 = true := ready_dep 19 hi (by kernel_rfl)
      obtain ⟨q19, y19, c19⟩ := h19.out d19
      subst y19
      clear hi hne hlt'
      refine wpOp_step rfl (fun K hK => ?_)
      have HK : Shut _ := hK
      clear hK
      go_simp
      refine Calls.mono (joinedS3 q19 24 (.slice az1 ss1.length cz1) (.slice none 0 0) (.slice az2 ss2.length cz2) ss1 [] ss2 w' c19 (RS1.out _ hB.1) hB.2 (RS2.out _ hB.1) (by simp only [List.length_nil]; omega)) ?_
      rintro e w1 ⟨ao, nn, cc, rfl, ow, b1⟩
      refine HK.out _ _ ?_
      exact ⟨f0, f1, f2, f3, f4, f5, f6, f7, f8, f9, f10, f11, f12, f13, f14, f15, f16, f17, f18, f19, true, f21, f22, rfl, e22, _, _, _, _, _, _, _, _, _, _, _, _, _, _, _, _, _, _, _, _, _, _, rfl, ⟨RB.call hB.1 b1, hB.2.below b1⟩, h0, h1, h2, h3, h4, h5, (fun d => let ⟨q, e, c⟩ := h6.out d; ⟨q, e, Cl.on c (b1)⟩), (fun d => let ⟨ao, n, c, e, o⟩ := h7.out d; ⟨ao, n, c, e, ownsRow_below o (b1)⟩), h8, h9, h10, h11, (fun d => let ⟨q, e, c⟩ := h12.out d; ⟨q, e, Cl.on c (b1)⟩), (fun d => let ⟨ao, n, c, e, o⟩ := h13.out d; ⟨ao, n, c, e, ownsRow_below o (b1)⟩), h14, h15, h16, h17, h18, (fun d => let ⟨q, e, c⟩ := h19.out d; ⟨q, e, Cl.on c (b1)⟩), (fun _ => ⟨ao, nn, cc, rfl, ownMono ow (RB.lt hB.1)⟩), (fun d => by have e := (h21.out d).2.2.1; rw [un] at e; cases e)⟩
    · have un : f21 = false := hun
      clear hun
      have d1 : f1 = true := ready_dep 1 hi (by kernel_rfl)
      have y1 := h1.out d1
      subst y1
      have d7 : f7 = true := ready_dep 7 hi (by kernel_rfl)
      obtain ⟨a7, n7, m7, y7, o7⟩ := h7.out d7
      subst y7
      have d13 : f13 = true := ready_dep 13 hi (by kernel_rfl)
      obtain ⟨a13, n13, m13, y13, o13⟩ := h13.out d13
      subst y13
      have d20 : f20 = true := ready_dep 20 hi (by kernel_rfl)
      obtain ⟨a20, n20, m20, y20, o20⟩ := h20.out d20
      subst y20
      clear hi hne hlt'
      refine wpOp_step rfl (fun K hK => ?_)
      have HK : Shut _ := hK
      clear hK
      go_simp
      refine HK.out _ _ ?_
      exact ⟨f0, f1, f2, f3, f4, f5, f6, f7, f8, f9, f10, f11, f12, f13, f14, f15, f16, f17, f18, f19, f20, true, f22, rfl, e22, _, _, _, _, _, _, _, _, _, _, _, _, _, _, _, _, _, _, _, _, _, _, rfl, hB, h0, h1, h2, h3, h4, h5, h6, h7, h8, h9, h10, h11, h12, h13, h14, h15, h16, h17, h18, h19, h20, (fun _ => ⟨d7, d13, d20, rfl⟩)⟩
  · intro f a w' hl hJ
    refine JJoin.elim hJ (C := fun f a w' => 22 ∈ Region.ready .any _ f.toArray → wpOp _ _ _ 22 _ a w') ?_
    clear hJ hl f a
    intro f0 f1 f2 f3 f4 f5 f6 f7 f8 f9 f10 f11 f12 f13 f14 f15 f16 f17 f18 f19 f20 f21 f22 x20 x21 x22 x23 x24 x25 x26 x27 x28 x29 x30 x31 x32 x33 x34 x35 x36 x37 x38 x39 x40 x41 e22 hB h0 h1 h2 h3 h4 h5 h6 h7 h8 h9 h10 h11 h12 h13 h14 h15 h16 h17 h18 h19 h20 h21 hi
    have d21 : f21 = true := ready_dep 21 hi (by kernel_rfl)
    obtain ⟨_, _, _, y21⟩ := h21.out d21
    subst y21
    have d7 : f7 = true := ready_dep 7 hi (by kernel_rfl)
    obtain ⟨a7, n7, m7, y7, o7⟩ := h7.out d7
    subst y7
    have d13 : f13 = true := ready_dep 13 hi (by kernel_rfl)
    obtain ⟨a13, n13, m13, y13, o13⟩ := h13.out d13
    subst y13
    have d20 : f20 = true := ready_dep 20 hi (by kernel_rfl)
    obtain ⟨a20, n20, m20, y20, o20⟩ := h20.out d20
    subst y20
    clear hi
    obtain ⟨⟨z0, y0⟩, ⟨z1, y1⟩, ⟨z2, y2⟩, ⟨z3, y3⟩, g0, g1, g2, g3⟩ := hB.1.four
    refine wpOp_step rfl (fun K hK => ?_)
    have HK : Shut _ := hK
    clear hK
    go_simp
    refine HK.out _ _ ?_
    have KF : Cl ((((w'.setCell ⟨p + 2, 0, none⟩ (.bool true)).setCell ⟨p + 2, 1, none⟩ (.slice a7 n7 m7)).setCell ⟨p + 2, 2, none⟩ (.slice a13 n13 m13)).setCell ⟨p + 2, 3, none⟩ (.slice a20 n20 m20)) (p + 2) #[.bool true, .slice a7 n7 m7, .slice a13 n13 m13, .slice a20 n20 m20] 26 := by
      obtain ⟨⟨_, u0, u1, u2, u3, kc⟩, _⟩ := hB
      exact kc.set4 _ _ _ _
    have BF : Hid (Below p w ((((w'.setCell ⟨p + 2, 0, none⟩ (.bool true)).setCell ⟨p + 2, 1, none⟩ (.slice a7 n7 m7)).setCell ⟨p + 2, 2, none⟩ (.slice a13 n13 m13)).setCell ⟨p + 2, 3, none⟩ (.slice a20 n20 m20))) := belSet4 (HBX.out _ hB.1) (by omega)
    have OF : Hid (NdO p ((((w'.setCell ⟨p + 2, 0, none⟩ (.bool true)).setCell ⟨p + 2, 1, none⟩ (.slice a7 n7 m7)).setCell ⟨p + 2, 2, none⟩ (.slice a13 n13 m13)).setCell ⟨p + 2, 3, none⟩ (.slice a20 n20 m20)) (.slice a7 n7 m7) (.slice a13 n13 m13) (.slice a20 n20 m20) ⟨true, es1 ++ es2, ks1 ++ ks2, ss1 ++ [] ++ ss2⟩) := ⟨ownMono (ownSet4 o7 (Nat.lt_succ_self _)) (by omega), ownMono (ownSet4 o13 (Nat.lt_succ_self _)) (by omega), ownMono (ownSet4 o20 (Nat.lt_succ_self _)) (by omega)⟩
    generalize ((((w'.setCell ⟨p + 2, 0, none⟩ (.bool true)).setCell ⟨p + 2, 1, none⟩ (.slice a7 n7 m7)).setCell ⟨p + 2, 2, none⟩ (.slice a13 n13 m13)).setCell ⟨p + 2, 3, none⟩ (.slice a20 n20 m20)) = X at *
    obtain ⟨k0, k1, k2, k3⟩ := KF.four
    clear y0 y1 y2 y3 g0 g1 g2 g3 hB h0 h1 h2 h3 h4 h5 h6 h7 h8 h9 h10 h11 h12 h13 h14 h15 h16 h17 h18 h19 h20 h21
    go_wp2
    refine bodyPost_ret (v := .agg #[.bool true, .slice a7 n7 m7, .slice a13 n13 m13, .slice a20 n20 m20]) ?_ rfl ⟨_, _, _, rfl, by rw [hp]; exact OF.out, by rw [hp]; exact BF.out⟩
    rw [results_cell rfl]
    go_simp
  · rintro f a w' ⟨f0, f1, f2, f3, f4, f5, f6, f7, f8, f9, f10, f11, f12, f13, f14, f15, f16, f17, f18, f19, f20, f21, f22, rfl, rfl, _⟩
    rfl

set_option maxHeartbeats 16000000 in
set_option maxRecDepth 100000 in
theorem join_inner (key : ByteArray) (es1 es2 : List En) (ks1 ks2 : List Int) (ss1 ss2 : List ByteArray) (ve1 vk1 vs1 ve2 vk2 vs2 : Value) (w : World) (h1 : NdR w ve1 vk1 vs1 ⟨false, es1, ks1, ss1⟩) (h2 : NdR w ve2 vk2 vs2 ⟨false, es2, ks2, ss2⟩) (hm1 : SmL ⟨false, es1, ks1, ss1⟩) (hm2 : SmL ⟨false, es2, ks2, ss2⟩) :
    Calls Try.prog 24 #[.agg #[.bool false, ve1, vk1, vs1], .string key, .agg #[.bool false, ve2, vk2, vs2]] w fun e w' => ∃ ve' vk' vs', e = .returned (.agg #[.bool false, ve', vk', vs']) ∧ NdO w.heap.size w' ve' vk' vs' ⟨false, es1 ++ es2, ks1 ++ ks2, ss1 ++ [key] ++ ss2⟩ ∧ Below w.heap.size w w' := by
  obtain ⟨he1, hk1, hs1⟩ := h1
  obtain ⟨he2, hk2, hs2⟩ := h2
  obtain ⟨s1, s2, s3⟩ := hm1
  obtain ⟨r1, r2, r3⟩ := hm2
  simp only at he1 hk1 hs1 he2 hk2 hs2 s1 s2 s3 r1 r2 r3
  obtain ⟨ae1, ce1, rfl, _⟩ := rowShape he1
  obtain ⟨ak1, ck1, rfl, _⟩ := rowShape hk1
  obtain ⟨az1, cz1, rfl, _⟩ := rowShape hs1
  obtain ⟨ae2, ce2, rfl, _⟩ := rowShape he2
  obtain ⟨ak2, ck2, rfl, _⟩ := rowShape hk2
  obtain ⟨az2, cz2, rfl, _⟩ := rowShape hs2
  have K1 : Cl ((((w.alloc (.cells #[.bool false, .slice ae1 es1.length ce1, .slice ak1 ks1.length ck1, .slice az1 ss1.length cz1] 26)).alloc (.cells #[.bool false, .slice ae2 es2.length ce2, .slice ak2 ks2.length ck2, .slice az2 ss2.length cz2] 26)).alloc (.cells #[.bool false, .slice none 0 0, .slice none 0 0, .slice none 0 0] 26)).alloc (.cells #[.string key] 9)) w.heap.size #[.bool false, .slice ae1 es1.length ce1, .slice ak1 ks1.length ck1, .slice az1 ss1.length cz1] 26 := (((Cl.new0 _ _ _).alloc _).alloc _).alloc _
  have K2 : Cl ((((w.alloc (.cells #[.bool false, .slice ae1 es1.length ce1, .slice ak1 ks1.length ck1, .slice az1 ss1.length cz1] 26)).alloc (.cells #[.bool false, .slice ae2 es2.length ce2, .slice ak2 ks2.length ck2, .slice az2 ss2.length cz2] 26)).alloc (.cells #[.bool false, .slice none 0 0, .slice none 0 0, .slice none 0 0] 26)).alloc (.cells #[.string key] 9)) (w.heap.size + 1) #[.bool false, .slice ae2 es2.length ce2, .slice ak2 ks2.length ck2, .slice az2 ss2.length cz2] 26 := ((Cl.new1 _ _ _ _).alloc _).alloc _
  have K3 : Cl ((((w.alloc (.cells #[.bool false, .slice ae1 es1.length ce1, .slice ak1 ks1.length ck1, .slice az1 ss1.length cz1] 26)).alloc (.cells #[.bool false, .slice ae2 es2.length ce2, .slice ak2 ks2.length ck2, .slice az2 ss2.length cz2] 26)).alloc (.cells #[.bool false, .slice none 0 0, .slice none 0 0, .slice none 0 0] 26)).alloc (.cells #[.string key] 9)) (w.heap.size + 2) #[.bool false, .slice none 0 0, .slice none 0 0, .slice none 0 0] 26 := (Cl.new2 _ _ _ _ _).alloc _
  have BW : Hid (Below w.heap.size w ((((w.alloc (.cells #[.bool false, .slice ae1 es1.length ce1, .slice ak1 ks1.length ck1, .slice az1 ss1.length cz1] 26)).alloc (.cells #[.bool false, .slice ae2 es2.length ce2, .slice ak2 ks2.length ck2, .slice az2 ss2.length cz2] 26)).alloc (.cells #[.bool false, .slice none 0 0, .slice none 0 0, .slice none 0 0] 26)).alloc (.cells #[.string key] 9))) := belAlloc _ (belAlloc _ (belAlloc _ (belAlloc _ (Below.refl _ _))))
  have RT0 : Row encS 1 ((((w.alloc (.cells #[.bool false, .slice ae1 es1.length ce1, .slice ak1 ks1.length ck1, .slice az1 ss1.length cz1] 26)).alloc (.cells #[.bool false, .slice ae2 es2.length ce2, .slice ak2 ks2.length ck2, .slice az2 ss2.length cz2] 26)).alloc (.cells #[.bool false, .slice none 0 0, .slice none 0 0, .slice none 0 0] 26)).alloc (.cells #[.string key] 9)) (.slice (some ⟨w.heap.size + 3, 0, none⟩) 1 1) [key] := (Cl.new3 _ _ _ _ _ _).rowS
  go_enter Try.func24, Try.ntmps24
  go_wp2_with fail
  generalize ((((w.alloc (.cells #[.bool false, .slice ae1 es1.length ce1, .slice ak1 ks1.length ck1, .slice az1 ss1.length cz1] 26)).alloc (.cells #[.bool false, .slice ae2 es2.length ce2, .slice ak2 ks2.length ck2, .slice az2 ss2.length cz2] 26)).alloc (.cells #[.bool false, .slice none 0 0, .slice none 0 0, .slice none 0 0] 26)).alloc (.cells #[.string key] 9)) = W at *
  obtain ⟨p, hp⟩ : ∃ p, w.heap.size = p := ⟨_, rfl⟩
  rw [hp] at K1 K2 K3 BW ⊢
  (try rw [hp] at RT0)
  have RT : Hid (Row encS 1 W.drew (.slice (some ⟨p + 3, 0, none⟩) 1 1) [key]) := RT0.below (Below.refl _ W).drew
  have R0 : Hid (RB W (p + 2) 26 W.drew) := ⟨(Below.refl _ W).drew, _, _, _, _, K3⟩
  have BX : ∀ X, RB W (p + 2) 26 X → Below p w X := fun X hX => BW.out.trans (hX.1.mono (by omega))
  have RE1 : Hid (∀ X, RB W (p + 2) 26 X → Row encP 2 X (.slice ae1 es1.length ce1) es1) := fun X hX => he1.below (by rw [hp]; exact BX X hX)
  have RK1 : Hid (∀ X, RB W (p + 2) 26 X → Row encI 1 X (.slice ak1 ks1.length ck1) ks1) := fun X hX => hk1.below (by rw [hp]; exact BX X hX)
  have RS1 : Hid (∀ X, RB W (p + 2) 26 X → Row encS 1 X (.slice az1 ss1.length cz1) ss1) := fun X hX => hs1.below (by rw [hp]; exact BX X hX)
  have RE2 : Hid (∀ X, RB W (p + 2) 26 X → Row encP 2 X (.slice ae2 es2.length ce2) es2) := fun X hX => he2.below (by rw [hp]; exact BX X hX)
  have RK2 : Hid (∀ X, RB W (p + 2) 26 X → Row encI 1 X (.slice ak2 ks2.length ck2) ks2) := fun X hX => hk2.below (by rw [hp]; exact BX X hX)
  have RS2 : Hid (∀ X, RB W (p + 2) 26 X → Row encS 1 X (.slice az2 ss2.length cz2) ss2) := fun X hX => hs2.below (by rw [hp]; exact BX X hX)
  have MA : Hid (∀ X, RB W (p + 2) 26 X → X.cell? ⟨p, 0, none⟩ = some (.bool false) ∧ X.cell? ⟨p, 1, none⟩ = some (.slice ae1 es1.length ce1) ∧ X.cell? ⟨p, 2, none⟩ = some (.slice ak1 ks1.length ck1) ∧ X.cell? ⟨p, 3, none⟩ = some (.slice az1 ss1.length cz1)) := fun X hX => (K1.below hX.1 (by omega)).four
  have MB : Hid (∀ X, RB W (p + 2) 26 X → X.cell? ⟨p + 1, 0, none⟩ = some (.bool false) ∧ X.cell? ⟨p + 1, 1, none⟩ = some (.slice ae2 es2.length ce2) ∧ X.cell? ⟨p + 1, 2, none⟩ = some (.slice ak2 ks2.length ck2) ∧ X.cell? ⟨p + 1, 3, none⟩ = some (.slice az2 ss2.length cz2)) := fun X hX => (K2.below hX.1 (by omega)).four
  have HBX : Hid (∀ X, RB W (p + 2) 26 X → Below p w X) := BX
  clear he1 hk1 hs1 he2 hk2 hs2 K1 K2 K3 BW BX RT0
  refine region_inv 22 (JJoin W p false key (.slice (some ⟨p + 3, 0, none⟩) 1 1) [key] ae1 ak1 az1 ce1 ck1 cz1 es1 ks1 ss1 ae2 ak2 az2 ce2 ck2 cz2 es2 ks2 ss2 _ _ _ _ _ _ _ _ _ _ _ _ _) (by kernel_rfl) (by kernel_rfl) (by kernel_rfl) ⟨false, false, false, false, false, false, false, false, false, false, false, false, false, false, false, false, false, false, false, false, false, false, false, rfl, rfl, _, _, _, _, _, _, _, _, _, _, _, _, _, _, _, _, _, _, _, _, _, _, rfl, ⟨R0.out, RT.out⟩, (fun h => by cases h), (fun h => by cases h), (fun h => by cases h), (fun h => by cases h), (fun h => by cases h), (fun h => by cases h), (fun h => by cases h), (fun h => by cases h), (fun h => by cases h), (fun h => by cases h), (fun h => by cases h), (fun h => by cases h), (fun h => by cases h), (fun h => by cases h), (fun h => by cases h), (fun h => by cases h), (fun h => by cases h), (fun h => by cases h), (fun h => by cases h), (fun h => by cases h), (fun h => by cases h), (fun h => by cases h)⟩ ?_ ?_ ?_
  · intro i f a w' hne hl hJ
    refine JJoin.elim hJ (C := fun f a w' => i ∈ Region.ready .any _ f.toArray → wpOp _ _ _ i (fun a' w'' => JJoin W p false key (.slice (some ⟨p + 3, 0, none⟩) 1 1) [key] ae1 ak1 az1 ce1 ck1 cz1 es1 ks1 ss1 ae2 ak2 az2 ce2 ck2 cz2 es2 ks2 ss2 _ _ _ _ _ _ _ _ _ _ _ _ _ (f.set i true) a' w'') a w') ?_
    clear hJ hl f a
    intro f0 f1 f2 f3 f4 f5 f6 f7 f8 f9 f10 f11 f12 f13 f14 f15 f16 f17 f18 f19 f20 f21 f22 x20 x21 x22 x23 x24 x25 x26 x27 x28 x29 x30 x31 x32 x33 x34 x35 x36 x37 x38 x39 x40 x41 e22 hB h0 h1 h2 h3 h4 h5 h6 h7 h8 h9 h10 h11 h12 h13 h14 h15 h16 h17 h18 h19 h20 h21 hi
    obtain ⟨hlt, hun, _⟩ := ready_mem hi
    have hlt' : i < 23 := hlt
    clear hlt
    rcases (by omega : i = 0 ∨ i = 1 ∨ i = 2 ∨ i = 3 ∨ i = 4 ∨ i = 5 ∨ i = 6 ∨ i = 7 ∨ i = 8 ∨ i = 9 ∨ i = 10 ∨ i = 11 ∨ i = 12 ∨ i = 13 ∨ i = 14 ∨ i = 15 ∨ i = 16 ∨ i = 17 ∨ i = 18 ∨ i = 19 ∨ i = 20 ∨ i = 21) with rfl | rfl | rfl | rfl | rfl | rfl | rfl | rfl | rfl | rfl | rfl | rfl | rfl | rfl | rfl | rfl | rfl | rfl | rfl | rfl | rfl | rfl
    · have un : f0 = false := hun
      clear hun
      clear hi hne hlt'
      refine wpOp_step rfl (fun K hK => ?_)
      have HK : Shut _ := hK
      clear hK
      go_simp
      refine HK.out _ _ ?_
      exact ⟨true, f1, f2, f3, f4, f5, f6, f7, f8, f9, f10, f11, f12, f13, f14, f15, f16, f17, f18, f19, f20, f21, f22, rfl, e22, _, _, _, _, _, _, _, _, _, _, _, _, _, _, _, _, _, _, _, _, _, _, rfl, hB, (fun _ => rfl), h1, h2, h3, h4, h5, h6, h7, h8, h9, h10, h11, h12, h13, h14, h15, h16, h17, h18, h19, h20, h21⟩
    · have un : f1 = false := hun
      clear hun
      have d0 : f0 = true := ready_dep 0 hi (by kernel_rfl)
      have y0 := h0.out d0
      subst y0
      clear hi hne hlt'
      have cell := (MA.out _ hB.1).1
      refine wpOp_step rfl (fun K hK => ?_)
      have HK : Shut _ := hK
      clear hK
      go_simp
      refine HK.out _ _ ?_
      exact ⟨f0, true, f2, f3, f4, f5, f6, f7, f8, f9, f10, f11, f12, f13, f14, f15, f16, f17, f18, f19, f20, f21, f22, rfl, e22, _, _, _, _, _, _, _, _, _, _, _, _, _, _, _, _, _, _, _, _, _, _, rfl, hB, h0, (fun _ => rfl), h2, h3, h4, h5, h6, h7, h8, h9, h10, h11, h12, h13, h14, h15, h16, h17, h18, h19, h20, h21⟩
    · have un : f2 = false := hun
      clear hun
      clear hi hne hlt'
      refine wpOp_step rfl (fun K hK => ?_)
      have HK : Shut _ := hK
      clear hK
      go_simp
      refine HK.out _ _ ?_
      exact ⟨f0, f1, true, f3, f4, f5, f6, f7, f8, f9, f10, f11, f12, f13, f14, f15, f16, f17, f18, f19, f20, f21, f22, rfl, e22, _, _, _, _, _, _, _, _, _, _, _, _, _, _, _, _, _, _, _, _, _, _, rfl, hB, h0, h1, (fun _ => rfl), h3, h4, h5, h6, h7, h8, h9, h10, h11, h12, h13, h14, h15, h16, h17, h18, h19, h20, h21⟩
    · have un : f3 = false := hun
      clear hun
      have d2 : f2 = true := ready_dep 2 hi (by kernel_rfl)
      have y2 := h2.out d2
      subst y2
      clear hi hne hlt'
      have cell := (MA.out _ hB.1).2.1
      refine wpOp_step rfl (fun K hK => ?_)
      have HK : Shut _ := hK
      clear hK
      go_simp
      refine HK.out _ _ ?_
      exact ⟨f0, f1, f2, true, f4, f5, f6, f7, f8, f9, f10, f11, f12, f13, f14, f15, f16, f17, f18, f19, f20, f21, f22, rfl, e22, _, _, _, _, _, _, _, _, _, _, _, _, _, _, _, _, _, _, _, _, _, _, rfl, hB, h0, h1, h2, (fun _ => rfl), h4, h5, h6, h7, h8, h9, h10, h11, h12, h13, h14, h15, h16, h17, h18, h19, h20, h21⟩
    · have un : f4 = false := hun
      clear hun
      clear hi hne hlt'
      refine wpOp_step rfl (fun K hK => ?_)
      have HK : Shut _ := hK
      clear hK
      go_simp
      refine HK.out _ _ ?_
      exact ⟨f0, f1, f2, f3, true, f5, f6, f7, f8, f9, f10, f11, f12, f13, f14, f15, f16, f17, f18, f19, f20, f21, f22, rfl, e22, _, _, _, _, _, _, _, _, _, _, _, _, _, _, _, _, _, _, _, _, _, _, rfl, hB, h0, h1, h2, h3, (fun _ => rfl), h5, h6, h7, h8, h9, h10, h11, h12, h13, h14, h15, h16, h17, h18, h19, h20, h21⟩
    · have un : f5 = false := hun
      clear hun
      have d4 : f4 = true := ready_dep 4 hi (by kernel_rfl)
      have y4 := h4.out d4
      subst y4
      clear hi hne hlt'
      have cell := (MB.out _ hB.1).2.1
      refine wpOp_step rfl (fun K hK => ?_)
      have HK : Shut _ := hK
      clear hK
      go_simp
      refine HK.out _ _ ?_
      exact ⟨f0, f1, f2, f3, f4, true, f6, f7, f8, f9, f10, f11, f12, f13, f14, f15, f16, f17, f18, f19, f20, f21, f22, rfl, e22, _, _, _, _, _, _, _, _, _, _, _, _, _, _, _, _, _, _, _, _, _, _, rfl, hB, h0, h1, h2, h3, h4, (fun _ => rfl), h6, h7, h8, h9, h10, h11, h12, h13, h14, h15, h16, h17, h18, h19, h20, h21⟩
    · have un : f6 = false := hun
      clear hun
      have d3 : f3 = true := ready_dep 3 hi (by kernel_rfl)
      have y3 := h3.out d3
      subst y3
      have d5 : f5 = true := ready_dep 5 hi (by kernel_rfl)
      have y5 := h5.out d5
      subst y5
      clear hi hne hlt'
      refine wpOp_step rfl (fun K hK => ?_)
      have HK : Shut _ := hK
      clear hK
      go_simp
      refine HK.out _ _ ?_
      exact ⟨f0, f1, f2, f3, f4, f5, true, f7, f8, f9, f10, f11, f12, f13, f14, f15, f16, f17, f18, f19, f20, f21, f22, rfl, e22, _, _, _, _, _, _, _, _, _, _, _, _, _, _, _, _, _, _, _, _, _, _, rfl, ⟨RB.alloc hB.1 _, hB.2.below (belAlloc _ (Below.refl _ _))⟩, h0, h1, h2, h3, h4, h5, (fun _ => ⟨_, rfl, Cl.new _ _ _⟩), (fun d => let ⟨ao, n, c, e, o⟩ := h7.out d; ⟨ao, n, c, e, ownsRow_below o (belAlloc _ (Below.refl _ _))⟩), h8, h9, h10, h11, (fun d => let ⟨q, e, c⟩ := h12.out d; ⟨q, e, Cl.on c (belAlloc _ (Below.refl _ _))⟩), (fun d => let ⟨ao, n, c, e, o⟩ := h13.out d; ⟨ao, n, c, e, ownsRow_below o (belAlloc _ (Below.refl _ _))⟩), h14, h15, h16, h17, h18, (fun d => let ⟨q, e, c⟩ := h19.out d; ⟨q, e, Cl.on c (belAlloc _ (Below.refl _ _))⟩), (fun d => let ⟨ao, n, c, e, o⟩ := h20.out d; ⟨ao, n, c, e, ownsRow_below o (belAlloc _ (Below.refl _ _))⟩), h21⟩
    · have un : f7 = false := hun
      clear hun
      have d6 : f6 = true := ready_dep 6 hi (by kernel_rfl)
      obtain ⟨q6, y6, c6⟩ := h6.out d6
      subst y6
      clear hi hne hlt'
      refine wpOp_step rfl (fun K hK => ?_)
      have HK : Shut _ := hK
      clear hK
      go_simp
      refine Calls.mono (joinedE2 q6 22 (.slice ae1 es1.length ce1) (.slice ae2 es2.length ce2) es1 es2 w' c6 (RE1.out _ hB.1) (RE2.out _ hB.1) (by omega)) ?_
      rintro e w1 ⟨ao, nn, cc, rfl, ow, b1⟩
      refine HK.out _ _ ?_
      exact ⟨f0, f1, f2, f3, f4, f5, f6, true, f8, f9, f10, f11, f12, f13, f14, f15, f16, f17, f18, f19, f20, f21, f22, rfl, e22, _, _, _, _, _, _, _, _, _, _, _, _, _, _, _, _, _, _, _, _, _, _, rfl, ⟨RB.call hB.1 b1, hB.2.below b1⟩, h0, h1, h2, h3, h4, h5, (fun d => let ⟨q, e, c⟩ := h6.out d; ⟨q, e, Cl.on c (b1)⟩), (fun _ => ⟨ao, nn, cc, rfl, ownMono ow (RB.lt hB.1)⟩), h8, h9, h10, h11, (fun d => let ⟨q, e, c⟩ := h12.out d; ⟨q, e, Cl.on c (b1)⟩), (fun d => let ⟨ao, n, c, e, o⟩ := h13.out d; ⟨ao, n, c, e, ownsRow_below o (b1)⟩), h14, h15, h16, h17, h18, (fun d => let ⟨q, e, c⟩ := h19.out d; ⟨q, e, Cl.on c (b1)⟩), (fun d => let ⟨ao, n, c, e, o⟩ := h20.out d; ⟨ao, n, c, e, ownsRow_below o (b1)⟩), (fun d => by have e := (h21.out d).1; rw [un] at e; cases e)⟩
    · have un : f8 = false := hun
      clear hun
      clear hi hne hlt'
      refine wpOp_step rfl (fun K hK => ?_)
      have HK : Shut _ := hK
      clear hK
      go_simp
      refine HK.out _ _ ?_
      exact ⟨f0, f1, f2, f3, f4, f5, f6, f7, true, f9, f10, f11, f12, f13, f14, f15, f16, f17, f18, f19, f20, f21, f22, rfl, e22, _, _, _, _, _, _, _, _, _, _, _, _, _, _, _, _, _, _, _, _, _, _, rfl, hB, h0, h1, h2, h3, h4, h5, h6, h7, (fun _ => rfl), h9, h10, h11, h12, h13, h14, h15, h16, h17, h18, h19, h20, h21⟩
    · have un : f9 = false := hun
      clear hun
      have d8 : f8 = true := ready_dep 8 hi (by kernel_rfl)
      have y8 := h8.out d8
      subst y8
      clear hi hne hlt'
      have cell := (MA.out _ hB.1).2.2.1
      refine wpOp_step rfl (fun K hK => ?_)
      have HK : Shut _ := hK
      clear hK
      go_simp
      refine HK.out _ _ ?_
      exact ⟨f0, f1, f2, f3, f4, f5, f6, f7, f8, true, f10, f11, f12, f13, f14, f15, f16, f17, f18, f19, f20, f21, f22, rfl, e22, _, _, _, _, _, _, _, _, _, _, _, _, _, _, _, _, _, _, _, _, _, _, rfl, hB, h0, h1, h2, h3, h4, h5, h6, h7, h8, (fun _ => rfl), h10, h11, h12, h13, h14, h15, h16, h17, h18, h19, h20, h21⟩
    · have un : f10 = false := hun
      clear hun
      clear hi hne hlt'
      refine wpOp_step rfl (fun K hK => ?_)
      have HK : Shut _ := hK
      clear hK
      go_simp
      refine HK.out _ _ ?_
      exact ⟨f0, f1, f2, f3, f4, f5, f6, f7, f8, f9, true, f11, f12, f13, f14, f15, f16, f17, f18, f19, f20, f21, f22, rfl, e22, _, _, _, _, _, _, _, _, _, _, _, _, _, _, _, _, _, _, _, _, _, _, rfl, hB, h0, h1, h2, h3, h4, h5, h6, h7, h8, h9, (fun _ => rfl), h11, h12, h13, h14, h15, h16, h17, h18, h19, h20, h21⟩
    · have un : f11 = false := hun
      clear hun
      have d10 : f10 = true := ready_dep 10 hi (by kernel_rfl)
      have y10 := h10.out d10
      subst y10
      clear hi hne hlt'
      have cell := (MB.out _ hB.1).2.2.1
      refine wpOp_step rfl (fun K hK => ?_)
      have HK : Shut _ := hK
      clear hK
      go_simp
      refine HK.out _ _ ?_
      exact ⟨f0, f1, f2, f3, f4, f5, f6, f7, f8, f9, f10, true, f12, f13, f14, f15, f16, f17, f18, f19, f20, f21, f22, rfl, e22, _, _, _, _, _, _, _, _, _, _, _, _, _, _, _, _, _, _, _, _, _, _, rfl, hB, h0, h1, h2, h3, h4, h5, h6, h7, h8, h9, h10, (fun _ => rfl), h12, h13, h14, h15, h16, h17, h18, h19, h20, h21⟩
    · have un : f12 = false := hun
      clear hun
      have d9 : f9 = true := ready_dep 9 hi (by kernel_rfl)
      have y9 := h9.out d9
      subst y9
      have d11 : f11 = true := ready_dep 11 hi (by kernel_rfl)
      have y11 := h11.out d11
      subst y11
      clear hi hne hlt'
      refine wpOp_step rfl (fun K hK => ?_)
      have HK : Shut _ := hK
      clear hK
      go_simp
      refine HK.out _ _ ?_
      exact ⟨f0, f1, f2, f3, f4, f5, f6, f7, f8, f9, f10, f11, true, f13, f14, f15, f16, f17, f18, f19, f20, f21, f22, rfl, e22, _, _, _, _, _, _, _, _, _, _, _, _, _, _, _, _, _, _, _, _, _, _, rfl, ⟨RB.alloc hB.1 _, hB.2.below (belAlloc _ (Below.refl _ _))⟩, h0, h1, h2, h3, h4, h5, (fun d => let ⟨q, e, c⟩ := h6.out d; ⟨q, e, Cl.on c (belAlloc _ (Below.refl _ _))⟩), (fun d => let ⟨ao, n, c, e, o⟩ := h7.out d; ⟨ao, n, c, e, ownsRow_below o (belAlloc _ (Below.refl _ _))⟩), h8, h9, h10, h11, (fun _ => ⟨_, rfl, Cl.new _ _ _⟩), (fun d => let ⟨ao, n, c, e, o⟩ := h13.out d; ⟨ao, n, c, e, ownsRow_below o (belAlloc _ (Below.refl _ _))⟩), h14, h15, h16, h17, h18, (fun d => let ⟨q, e, c⟩ := h19.out d; ⟨q, e, Cl.on c (belAlloc _ (Below.refl _ _))⟩), (fun d => let ⟨ao, n, c, e, o⟩ := h20.out d; ⟨ao, n, c, e, ownsRow_below o (belAlloc _ (Below.refl _ _))⟩), h21⟩
    · have un : f13 = false := hun
      clear hun
      have d12 : f12 = true := ready_dep 12 hi (by kernel_rfl)
      obtain ⟨q12, y12, c12⟩ := h12.out d12
      subst y12
      clear hi hne hlt'
      refine wpOp_step rfl (fun K hK => ?_)
      have HK : Shut _ := hK
      clear hK
      go_simp
      refine Calls.mono (joinedI2 q12 23 (.slice ak1 ks1.length ck1) (.slice ak2 ks2.length ck2) ks1 ks2 w' c12 (RK1.out _ hB.1) (RK2.out _ hB.1) (by omega)) ?_
      rintro e w1 ⟨ao, nn, cc, rfl, ow, b1⟩
      refine HK.out _ _ ?_
      exact ⟨f0, f1, f2, f3, f4, f5, f6, f7, f8, f9, f10, f11, f12, true, f14, f15, f16, f17, f18, f19, f20, f21, f22, rfl, e22, _, _, _, _, _, _, _, _, _, _, _, _, _, _, _, _, _, _, _, _, _, _, rfl, ⟨RB.call hB.1 b1, hB.2.below b1⟩, h0, h1, h2, h3, h4, h5, (fun d => let ⟨q, e, c⟩ := h6.out d; ⟨q, e, Cl.on c (b1)⟩), (fun d => let ⟨ao, n, c, e, o⟩ := h7.out d; ⟨ao, n, c, e, ownsRow_below o (b1)⟩), h8, h9, h10, h11, (fun d => let ⟨q, e, c⟩ := h12.out d; ⟨q, e, Cl.on c (b1)⟩), (fun _ => ⟨ao, nn, cc, rfl, ownMono ow (RB.lt hB.1)⟩), h14, h15, h16, h17, h18, (fun d => let ⟨q, e, c⟩ := h19.out d; ⟨q, e, Cl.on c (b1)⟩), (fun d => let ⟨ao, n, c, e, o⟩ := h20.out d; ⟨ao, n, c, e, ownsRow_below o (b1)⟩), (fun d => by have e := (h21.out d).2.1; rw [un] at e; cases e)⟩
    · have un : f14 = false := hun
      clear hun
      clear hi hne hlt'
      refine wpOp_step rfl (fun K hK => ?_)
      have HK : Shut _ := hK
      clear hK
      go_simp
      refine HK.out _ _ ?_
      exact ⟨f0, f1, f2, f3, f4, f5, f6, f7, f8, f9, f10, f11, f12, f13, true, f15, f16, f17, f18, f19, f20, f21, f22, rfl, e22, _, _, _, _, _, _, _, _, _, _, _, _, _, _, _, _, _, _, _, _, _, _, rfl, hB, h0, h1, h2, h3, h4, h5, h6, h7, h8, h9, h10, h11, h12, h13, (fun _ => rfl), h15, h16, h17, h18, h19, h20, h21⟩
    · have un : f15 = false := hun
      clear hun
      have d14 : f14 = true := ready_dep 14 hi (by kernel_rfl)
      have y14 := h14.out d14
      subst y14
      clear hi hne hlt'
      have cell := (MA.out _ hB.1).2.2.2
      refine wpOp_step rfl (fun K hK => ?_)
      have HK : Shut _ := hK
      clear hK
      go_simp
      refine HK.out _ _ ?_
      exact ⟨f0, f1, f2, f3, f4, f5, f6, f7, f8, f9, f10, f11, f12, f13, f14, true, f16, f17, f18, f19, f20, f21, f22, rfl, e22, _, _, _, _, _, _, _, _, _, _, _, _, _, _, _, _, _, _, _, _, _, _, rfl, hB, h0, h1, h2, h3, h4, h5, h6, h7, h8, h9, h10, h11, h12, h13, h14, (fun _ => rfl), h16, h17, h18, h19, h20, h21⟩
    · have un : f16 = false := hun
      clear hun
      clear hi hne hlt'
      refine wpOp_step rfl (fun K hK => ?_)
      have HK : Shut _ := hK
      clear hK
      go_simp
      refine HK.out _ _ ?_
      exact ⟨f0, f1, f2, f3, f4, f5, f6, f7, f8, f9, f10, f11, f12, f13, f14, f15, true, f17, f18, f19, f20, f21, f22, rfl, e22, _, _, _, _, _, _, _, _, _, _, _, _, _, _, _, _, _, _, _, _, _, _, rfl, hB, h0, h1, h2, h3, h4, h5, h6, h7, h8, h9, h10, h11, h12, h13, h14, h15, (fun _ => rfl), h17, h18, h19, h20, h21⟩
    · have un : f17 = false := hun
      clear hun
      clear hi hne hlt'
      refine wpOp_step rfl (fun K hK => ?_)
      have HK : Shut _ := hK
      clear hK
      go_simp
      refine HK.out _ _ ?_
      exact ⟨f0, f1, f2, f3, f4, f5, f6, f7, f8, f9, f10, f11, f12, f13, f14, f15, f16, true, f18, f19, f20, f21, f22, rfl, e22, _, _, _, _, _, _, _, _, _, _, _, _, _, _, _, _, _, _, _, _, _, _, rfl, hB, h0, h1, h2, h3, h4, h5, h6, h7, h8, h9, h10, h11, h12, h13, h14, h15, h16, (fun _ => rfl), h18, h19, h20, h21⟩
    · have un : f18 = false := hun
      clear hun
      have d17 : f17 = true := ready_dep 17 hi (by kernel_rfl)
      have y17 := h17.out d17
      subst y17
      clear hi hne hlt'
      have cell := (MB.out _ hB.1).2.2.2
      refine wpOp_step rfl (fun K hK => ?_)
      have HK : Shut _ := hK
      clear hK
      go_simp
      refine HK.out _ _ ?_
      exact ⟨f0, f1, f2, f3, f4, f5, f6, f7, f8, f9, f10, f11, f12, f13, f14, f15, f16, f17, true, f19, f20, f21, f22, rfl, e22, _, _, _, _, _, _, _, _, _, _, _, _, _, _, _, _, _, _, _, _, _, _, rfl, hB, h0, h1, h2, h3, h4, h5, h6, h7, h8, h9, h10, h11, h12, h13, h14, h15, h16, h17, (fun _ => rfl), h19, h20, h21⟩
    · have un : f19 = false := hun
      clear hun
      have d15 : f15 = true := ready_dep 15 hi (by kernel_rfl)
      have y15 := h15.out d15
      subst y15
      have d16 : f16 = true := ready_dep 16 hi (by kernel_rfl)
      have y16 := h16.out d16
      subst y16
      have d18 : f18 = true := ready_dep 18 hi (by kernel_rfl)
      have y18 := h18.out d18
      subst y18
      clear hi hne hlt'
      refine wpOp_step rfl (fun K hK => ?_)
      have HK : Shut _ := hK
      clear hK
      go_simp
      refine HK.out _ _ ?_
      exact ⟨f0, f1, f2, f3, f4, f5, f6, f7, f8, f9, f10, f11, f12, f13, f14, f15, f16, f17, f18, true, f20, f21, f22, rfl, e22, _, _, _, _, _, _, _, _, _, _, _, _, _, _, _, _, _, _, _, _, _, _, rfl, ⟨RB.alloc hB.1 _, hB.2.below (belAlloc _ (Below.refl _ _))⟩, h0, h1, h2, h3, h4, h5, (fun d => let ⟨q, e, c⟩ := h6.out d; ⟨q, e, Cl.on c (belAlloc _ (Below.refl _ _))⟩), (fun d => let ⟨ao, n, c, e, o⟩ := h7.out d; ⟨ao, n, c, e, ownsRow_below o (belAlloc _ (Below.refl _ _))⟩), h8, h9, h10, h11, (fun d => let ⟨q, e, c⟩ := h12.out d; ⟨q, e, Cl.on c (belAlloc _ (Below.refl _ _))⟩), (fun d => let ⟨ao, n, c, e, o⟩ := h13.out d; ⟨ao, n, c, e, ownsRow_below o (belAlloc _ (Below.refl _ _))⟩), h14, h15, h16, h17, h18, (fun _ => ⟨_, rfl, Cl.new _ _ _⟩), (fun d => let ⟨ao, n, c, e, o⟩ := h20.out d; ⟨ao, n, c, e, ownsRow_below o (belAlloc _ (Below.refl _ _))⟩), h21⟩
    · have un : f20 = false := hun
      clear hun
      have d19 : f19 = true := ready_dep 19 hi (by kernel_rfl)
      obtain ⟨q19, y19, c19⟩ := h19.out d19
      subst y19
      clear hi hne hlt'
      refine wpOp_step rfl (fun K hK => ?_)
      have HK : Shut _ := hK
      clear hK
      go_simp
      refine Calls.mono (joinedS3 q19 24 (.slice az1 ss1.length cz1) (.slice (some ⟨p + 3, 0, none⟩) 1 1) (.slice az2 ss2.length cz2) ss1 [key] ss2 w' c19 (RS1.out _ hB.1) hB.2 (RS2.out _ hB.1) (by simp only [List.length_singleton]; omega)) ?_
      rintro e w1 ⟨ao, nn, cc, rfl, ow, b1⟩
      refine HK.out _ _ ?_
      exact ⟨f0, f1, f2, f3, f4, f5, f6, f7, f8, f9, f10, f11, f12, f13, f14, f15, f16, f17, f18, f19, true, f21, f22, rfl, e22, _, _, _, _, _, _, _, _, _, _, _, _, _, _, _, _, _, _, _, _, _, _, rfl, ⟨RB.call hB.1 b1, hB.2.below b1⟩, h0, h1, h2, h3, h4, h5, (fun d => let ⟨q, e, c⟩ := h6.out d; ⟨q, e, Cl.on c (b1)⟩), (fun d => let ⟨ao, n, c, e, o⟩ := h7.out d; ⟨ao, n, c, e, ownsRow_below o (b1)⟩), h8, h9, h10, h11, (fun d => let ⟨q, e, c⟩ := h12.out d; ⟨q, e, Cl.on c (b1)⟩), (fun d => let ⟨ao, n, c, e, o⟩ := h13.out d; ⟨ao, n, c, e, ownsRow_below o (b1)⟩), h14, h15, h16, h17, h18, (fun d => let ⟨q, e, c⟩ := h19.out d; ⟨q, e, Cl.on c (b1)⟩), (fun _ => ⟨ao, nn, cc, rfl, ownMono ow (RB.lt hB.1)⟩), (fun d => by have e := (h21.out d).2.2.1; rw [un] at e; cases e)⟩
    · have un : f21 = false := hun
      clear hun
      have d1 : f1 = true := ready_dep 1 hi (by kernel_rfl)
      have y1 := h1.out d1
      subst y1
      have d7 : f7 = true := ready_dep 7 hi (by kernel_rfl)
      obtain ⟨a7, n7, m7, y7, o7⟩ := h7.out d7
      subst y7
      have d13 : f13 = true := ready_dep 13 hi (by kernel_rfl)
      obtain ⟨a13, n13, m13, y13, o13⟩ := h13.out d13
      subst y13
      have d20 : f20 = true := ready_dep 20 hi (by kernel_rfl)
      obtain ⟨a20, n20, m20, y20, o20⟩ := h20.out d20
      subst y20
      clear hi hne hlt'
      refine wpOp_step rfl (fun K hK => ?_)
      have HK : Shut _ := hK
      clear hK
      go_simp
      refine HK.out _ _ ?_
      exact ⟨f0, f1, f2, f3, f4, f5, f6, f7, f8, f9, f10, f11, f12, f13, f14, f15, f16, f17, f18, f19, f20, true, f22, rfl, e22, _, _, _, _, _, _, _, _, _, _, _, _, _, _, _, _, _, _, _, _, _, _, rfl, hB, h0, h1, h2, h3, h4, h5, h6, h7, h8, h9, h10, h11, h12, h13, h14, h15, h16, h17, h18, h19, h20, (fun _ => ⟨d7, d13, d20, rfl⟩)⟩
  · intro f a w' hl hJ
    refine JJoin.elim hJ (C := fun f a w' => 22 ∈ Region.ready .any _ f.toArray → wpOp _ _ _ 22 _ a w') ?_
    clear hJ hl f a
    intro f0 f1 f2 f3 f4 f5 f6 f7 f8 f9 f10 f11 f12 f13 f14 f15 f16 f17 f18 f19 f20 f21 f22 x20 x21 x22 x23 x24 x25 x26 x27 x28 x29 x30 x31 x32 x33 x34 x35 x36 x37 x38 x39 x40 x41 e22 hB h0 h1 h2 h3 h4 h5 h6 h7 h8 h9 h10 h11 h12 h13 h14 h15 h16 h17 h18 h19 h20 h21 hi
    have d21 : f21 = true := ready_dep 21 hi (by kernel_rfl)
    obtain ⟨_, _, _, y21⟩ := h21.out d21
    subst y21
    have d7 : f7 = true := ready_dep 7 hi (by kernel_rfl)
    obtain ⟨a7, n7, m7, y7, o7⟩ := h7.out d7
    subst y7
    have d13 : f13 = true := ready_dep 13 hi (by kernel_rfl)
    obtain ⟨a13, n13, m13, y13, o13⟩ := h13.out d13
    subst y13
    have d20 : f20 = true := ready_dep 20 hi (by kernel_rfl)
    obtain ⟨a20, n20, m20, y20, o20⟩ := h20.out d20
    subst y20
    clear hi
    obtain ⟨⟨z0, y0⟩, ⟨z1, y1⟩, ⟨z2, y2⟩, ⟨z3, y3⟩, g0, g1, g2, g3⟩ := hB.1.four
    refine wpOp_step rfl (fun K hK => ?_)
    have HK : Shut _ := hK
    clear hK
    go_simp
    refine HK.out _ _ ?_
    have KF : Cl ((((w'.setCell ⟨p + 2, 0, none⟩ (.bool false)).setCell ⟨p + 2, 1, none⟩ (.slice a7 n7 m7)).setCell ⟨p + 2, 2, none⟩ (.slice a13 n13 m13)).setCell ⟨p + 2, 3, none⟩ (.slice a20 n20 m20)) (p + 2) #[.bool false, .slice a7 n7 m7, .slice a13 n13 m13, .slice a20 n20 m20] 26 := by
      obtain ⟨⟨_, u0, u1, u2, u3, kc⟩, _⟩ := hB
      exact kc.set4 _ _ _ _
    have BF : Hid (Below p w ((((w'.setCell ⟨p + 2, 0, none⟩ (.bool false)).setCell ⟨p + 2, 1, none⟩ (.slice a7 n7 m7)).setCell ⟨p + 2, 2, none⟩ (.slice a13 n13 m13)).setCell ⟨p + 2, 3, none⟩ (.slice a20 n20 m20))) := belSet4 (HBX.out _ hB.1) (by omega)
    have OF : Hid (NdO p ((((w'.setCell ⟨p + 2, 0, none⟩ (.bool false)).setCell ⟨p + 2, 1, none⟩ (.slice a7 n7 m7)).setCell ⟨p + 2, 2, none⟩ (.slice a13 n13 m13)).setCell ⟨p + 2, 3, none⟩ (.slice a20 n20 m20)) (.slice a7 n7 m7) (.slice a13 n13 m13) (.slice a20 n20 m20) ⟨false, es1 ++ es2, ks1 ++ ks2, ss1 ++ [key] ++ ss2⟩) := ⟨ownMono (ownSet4 o7 (Nat.lt_succ_self _)) (by omega), ownMono (ownSet4 o13 (Nat.lt_succ_self _)) (by omega), ownMono (ownSet4 o20 (Nat.lt_succ_self _)) (by omega)⟩
    generalize ((((w'.setCell ⟨p + 2, 0, none⟩ (.bool false)).setCell ⟨p + 2, 1, none⟩ (.slice a7 n7 m7)).setCell ⟨p + 2, 2, none⟩ (.slice a13 n13 m13)).setCell ⟨p + 2, 3, none⟩ (.slice a20 n20 m20)) = X at *
    obtain ⟨k0, k1, k2, k3⟩ := KF.four
    clear y0 y1 y2 y3 g0 g1 g2 g3 hB h0 h1 h2 h3 h4 h5 h6 h7 h8 h9 h10 h11 h12 h13 h14 h15 h16 h17 h18 h19 h20 h21
    go_wp2
    refine bodyPost_ret (v := .agg #[.bool false, .slice a7 n7 m7, .slice a13 n13 m13, .slice a20 n20 m20]) ?_ rfl ⟨_, _, _, rfl, by rw [hp]; exact OF.out, by rw [hp]; exact BF.out⟩
    rw [results_cell rfl]
    go_simp
  · rintro f a w' ⟨f0, f1, f2, f3, f4, f5, f6, f7, f8, f9, f10, f11, f12, f13, f14, f15, f16, f17, f18, f19, f20, f21, f22, rfl, rfl, _⟩
    rfl

end Go.Proofs.Ytmamnlphhiaeoaa

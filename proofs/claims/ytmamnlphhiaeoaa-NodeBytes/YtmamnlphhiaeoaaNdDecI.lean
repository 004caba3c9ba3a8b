/-
  The walk of package node's innerOf.
-/
import Derived.Test.YtmamnlphhiaeoaaNdDec
import Derived.Deep.LoopGhost
namespace Go.Proofs.Ytmamnlphhiaeoaa
open Go.Shelf Go.RowKit Go.Lib Go.Sort

theorem onlyUndr {b : Nat} {w w' : World} (h : Only b w.drew w') : Only b w w' := ⟨h.os, h.tape, h.output, h.size, h.block⟩
theorem pk_map1 (out : List Pk) (x : Pk) : (out ++ [x]).map (·.1) = out.map (·.1) ++ [x.1] := by simp
theorem pk_map2 (k0 : Int) (out : List Pk) (x : Pk) : k0 :: (out ++ [x]).map (·.2) = (k0 :: out.map (·.2)) ++ [x.2] := by simp

/-- What holds all the time between the operations that append to Keys. -/
structure RegBS (W : World) (rb q : Nat) (ak : Option Addr) (nk ck : Nat) (az : Option Addr) (nz cz : Nat) (kl : List Int) (sl : List ByteArray) (s s1 : ByteArray) (e e1 : Int) (f3 f5 : Bool) (w : World) : Prop where
  k : Cl w q #[.bool false, .slice none 0 0, .slice ak nk ck, .slice az nz cz] 26
  b : Below rb W w
  other : OwnI (rb + 1) w (.slice ak nk ck) kl
  r : Rd rb (cond f3 s1 s) (cond f3 e1 e) w
  o : f5 = false → OwnS (rb + 1) w (.slice az nz cz) sl
  ne : q ≠ rb
theorem RegBS.z {W : World} {rb q : Nat} {ak : Option Addr} {nk ck : Nat} {az : Option Addr} {nz cz : Nat} {kl : List Int} {sl : List ByteArray} {s s1 : ByteArray} {e e1 : Int} {f3 f5 : Bool} {w : World} (h : RegBS W rb q ak nk ck az nz cz kl sl s s1 e e1 f3 f5 w) : rb + 1 ≤ w.heap.size := h.r.lt
theorem RegBS.lay {W : World} {rb q : Nat} {ak : Option Addr} {nk ck : Nat} {az : Option Addr} {nz cz : Nat} {kl : List Int} {sl : List ByteArray} {s s1 : ByteArray} {e e1 : Int} {f3 f5 : Bool} {w : World} (h : RegBS W rb q ak nk ck az nz cz kl sl s s1 e e1 f3 f5 w) (x : Obj) : RegBS W rb q ak nk ck az nz cz kl sl s s1 e e1 f3 f5 (w.alloc x) :=
  ⟨h.k.alloc _, h.b.alloc (Nat.le_of_lt h.r.lt) _, ownsRow_below h.other (belAlloc _ (Below.refl _ _)), h.r.below (belAlloc _ (Below.refl _ w)) h.r.lt, fun t => ownsRow_below (h.o t) (belAlloc _ (Below.refl _ _)), h.ne⟩
theorem RegBS.read {W : World} {rb q : Nat} {ak : Option Addr} {nk ck : Nat} {az : Option Addr} {nz cz : Nat} {kl : List Int} {sl : List ByteArray} {s s1 : ByteArray} {e e1 : Int} {f3 f5 : Bool} {w w' : World} (h : RegBS W rb q ak nk ck az nz cz kl sl s s1 e e1 f3 f5 w) (hr : Rd rb s1 e1 w') (ho : Only rb w w') (_un : f3 = false) : RegBS W rb q ak nk ck az nz cz kl sl s s1 e e1 true f5 w' :=
  ⟨clOnly h.k ho h.ne, h.b.trans (ho.below (Nat.le_refl _)), ownOnly h.other ho (Nat.lt_succ_self _), hr, fun t => ownOnly (h.o t) ho (Nat.lt_succ_self _), h.ne⟩
theorem RegBS.grow {W : World} {rb q : Nat} {ak : Option Addr} {nk ck : Nat} {az : Option Addr} {nz cz : Nat} {kl : List Int} {sl : List ByteArray} {s s1 : ByteArray} {e e1 : Int} {f3 f5 : Bool} {w w' : World} (h : RegBS W rb q ak nk ck az nz cz kl sl s s1 e e1 f3 f5 w) (hq : ∀ w0, Below (rb + 1) w0 w → Below (rb + 1) w0 w') (ht : OthT 9 w w') (hc : OthC 9 w w') : RegBS W rb q ak nk ck az nz cz kl sl s s1 e e1 f3 true w' :=
  ⟨hc _ _ _ (by decide) h.k, h.b.trans ((hq _ (Below.refl _ _)).mono (Nat.le_succ _)), ht _ _ _ _ _ _ (by decide) h.other, h.r.of (hc _ _ _ (by decide) h.r.cl), (fun t => by cases t), h.ne⟩
/-- What holds all the time between the operations that append to Kids. -/
structure RegBI (W : World) (rb q : Nat) (ak : Option Addr) (nk ck : Nat) (az : Option Addr) (nz cz : Nat) (kl : List Int) (sl : List ByteArray) (s s1 : ByteArray) (e e1 : Int) (f3 f5 : Bool) (w : World) : Prop where
  k : Cl w q #[.bool false, .slice none 0 0, .slice ak nk ck, .slice az nz cz] 26
  b : Below rb W w
  other : OwnS (rb + 1) w (.slice az nz cz) sl
  r : Rd rb (cond f3 s1 s) (cond f3 e1 e) w
  o : f5 = false → OwnI (rb + 1) w (.slice ak nk ck) kl
  ne : q ≠ rb
theorem RegBI.z {W : World} {rb q : Nat} {ak : Option Addr} {nk ck : Nat} {az : Option Addr} {nz cz : Nat} {kl : List Int} {sl : List ByteArray} {s s1 : ByteArray} {e e1 : Int} {f3 f5 : Bool} {w : World} (h : RegBI W rb q ak nk ck az nz cz kl sl s s1 e e1 f3 f5 w) : rb + 1 ≤ w.heap.size := h.r.lt
theorem RegBI.lay {W : World} {rb q : Nat} {ak : Option Addr} {nk ck : Nat} {az : Option Addr} {nz cz : Nat} {kl : List Int} {sl : List ByteArray} {s s1 : ByteArray} {e e1 : Int} {f3 f5 : Bool} {w : World} (h : RegBI W rb q ak nk ck az nz cz kl sl s s1 e e1 f3 f5 w) (x : Obj) : RegBI W rb q ak nk ck az nz cz kl sl s s1 e e1 f3 f5 (w.alloc x) :=
  ⟨h.k.alloc _, h.b.alloc (Nat.le_of_lt h.r.lt) _, ownsRow_below h.other (belAlloc _ (Below.refl _ _)), h.r.below (belAlloc _ (Below.refl _ w)) h.r.lt, fun t => ownsRow_below (h.o t) (belAlloc _ (Below.refl _ _)), h.ne⟩
theorem RegBI.read {W : World} {rb q : Nat} {ak : Option Addr} {nk ck : Nat} {az : Option Addr} {nz cz : Nat} {kl : List Int} {sl : List ByteArray} {s s1 : ByteArray} {e e1 : Int} {f3 f5 : Bool} {w w' : World} (h : RegBI W rb q ak nk ck az nz cz kl sl s s1 e e1 f3 f5 w) (hr : Rd rb s1 e1 w') (ho : Only rb w w') (_un : f3 = false) : RegBI W rb q ak nk ck az nz cz kl sl s s1 e e1 true f5 w' :=
  ⟨clOnly h.k ho h.ne, h.b.trans (ho.below (Nat.le_refl _)), ownOnly h.other ho (Nat.lt_succ_self _), hr, fun t => ownOnly (h.o t) ho (Nat.lt_succ_self _), h.ne⟩
theorem RegBI.grow {W : World} {rb q : Nat} {ak : Option Addr} {nk ck : Nat} {az : Option Addr} {nz cz : Nat} {kl : List Int} {sl : List ByteArray} {s s1 : ByteArray} {e e1 : Int} {f3 f5 : Bool} {w w' : World} (h : RegBI W rb q ak nk ck az nz cz kl sl s s1 e e1 f3 f5 w) (hq : ∀ w0, Below (rb + 1) w0 w → Below (rb + 1) w0 w') (ht : OthT 3 w w') (hc : OthC 3 w w') : RegBI W rb q ak nk ck az nz cz kl sl s s1 e e1 f3 true w' :=
  ⟨hc _ _ _ (by decide) h.k, h.b.trans ((hq _ (Below.refl _ _)).mono (Nat.le_succ _)), ht _ _ _ _ _ _ (by decide) h.other, h.r.of (hc _ _ _ (by decide) h.r.cl), (fun t => by cases t), h.ne⟩
/-- What holds between the operations of the region. -/
def JDeS (W : World) (rb q : Nat) (ak : Option Addr) (nk ck : Nat) (az : Option Addr) (nz cz : Nat) (kl : List Int) (sl : List ByteArray) (s s1 : ByteArray) (e e1 : Int) (kk : ByteArray) (lm : List ByteArray) (y0 y1 y2 y3 y6 y7 y8 y9 y10 y11 y12 y13 y14 y15 y16 y17 y18 y19 y27 y28 y29 y30 y31 y32 y33 y34 y35 y36 y37 y38 y39 y40 y41 y42 y43 : Value) (f : List Bool) (a : Act) (w : World) : Prop :=
  ∃ f0 f1 f2 f3 f4 f5 f6 f7 : Bool, f = [f0, f1, f2, f3, f4, f5, f6, f7] ∧ f7 = false ∧ ∃ x20 x21 x22 x23 x24 x25 x26 : Value,
    a = { tmps := #[y0, y1, y2, y3, .pointer (some ⟨rb, 0, none⟩), .pointer (some ⟨q, 0, none⟩), y6, y7, y8, y9, y10, y11, y12, y13, y14, y15, y16, y17, y18, y19, x20, x21, x22, x23, x24, x25, x26, y27, y28, y29, y30, y31, y32, y33, y34, y35, y36, y37, y38, y39, y40, y41, y42, y43], defers := [] } ∧ RegBS W rb q ak nk ck az nz cz kl sl s s1 e e1 f3 f5 w ∧
    Hid (f0 = true → x20 = .pointer (some ⟨q, 3, none⟩)) ∧
    Hid (f1 = true → x21 = .slice az nz cz) ∧
    Hid (f2 = true → x22 = .pointer (some ⟨rb, 0, none⟩)) ∧
    Hid (f3 = true → x23 = .string kk) ∧
    Hid (f4 = true → f5 = false → f3 = true ∧ ∃ qq, x24 = .slice (some ⟨qq, 0, none⟩) 1 1 ∧ Cl w qq #[.string kk] 9) ∧
    Hid (f5 = true → f3 = true ∧ ∃ ao n c, x25 = .slice ao n c ∧ OwnS (rb + 1) w x25 (lm)) ∧
    Hid (f6 = true → x26 = .pointer (some ⟨q, 3, none⟩))
theorem JDeS.elim {W : World} {rb q : Nat} {ak : Option Addr} {nk ck : Nat} {az : Option Addr} {nz cz : Nat} {kl : List Int} {sl : List ByteArray} {s s1 : ByteArray} {e e1 : Int} {kk : ByteArray} {lm : List ByteArray} {y0 y1 y2 y3 y6 y7 y8 y9 y10 y11 y12 y13 y14 y15 y16 y17 y18 y19 y27 y28 y29 y30 y31 y32 y33 y34 y35 y36 y37 y38 y39 y40 y41 y42 y43 : Value} {f : List Bool} {a : Act} {w : World} {C : List Bool → Act → World → Prop} (h : JDeS W rb q ak nk ck az nz cz kl sl s s1 e e1 kk lm y0 y1 y2 y3 y6 y7 y8 y9 y10 y11 y12 y13 y14 y15 y16 y17 y18 y19 y27 y28 y29 y30 y31 y32 y33 y34 y35 y36 y37 y38 y39 y40 y41 y42 y43 f a w)
    (k : ∀ (f0 f1 f2 f3 f4 f5 f6 f7 : Bool) (x20 x21 x22 x23 x24 x25 x26 : Value), f7 = false → RegBS W rb q ak nk ck az nz cz kl sl s s1 e e1 f3 f5 w →
      Hid (f0 = true → x20 = .pointer (some ⟨q, 3, none⟩)) →
      Hid (f1 = true → x21 = .slice az nz cz) →
      Hid (f2 = true → x22 = .pointer (some ⟨rb, 0, none⟩)) →
      Hid (f3 = true → x23 = .string kk) →
      Hid (f4 = true → f5 = false → f3 = true ∧ ∃ qq, x24 = .slice (some ⟨qq, 0, none⟩) 1 1 ∧ Cl w qq #[.string kk] 9) →
      Hid (f5 = true → f3 = true ∧ ∃ ao n c, x25 = .slice ao n c ∧ OwnS (rb + 1) w x25 (lm)) →
      Hid (f6 = true → x26 = .pointer (some ⟨q, 3, none⟩)) →
      C [f0, f1, f2, f3, f4, f5, f6, f7] { tmps := #[y0, y1, y2, y3, .pointer (some ⟨rb, 0, none⟩), .pointer (some ⟨q, 0, none⟩), y6, y7, y8, y9, y10, y11, y12, y13, y14, y15, y16, y17, y18, y19, x20, x21, x22, x23, x24, x25, x26, y27, y28, y29, y30, y31, y32, y33, y34, y35, y36, y37, y38, y39, y40, y41, y42, y43], defers := [] } w) : C f a w :=
  let ⟨f0, f1, f2, f3, f4, f5, f6, f7, ef, e, x20, x21, x22, x23, x24, x25, x26, ea, hB, h0, h1, h2, h3, h4, h5, h6⟩ := h
  ef ▸ ea ▸ k f0 f1 f2 f3 f4 f5 f6 f7 x20 x21 x22 x23 x24 x25 x26 e hB h0 h1 h2 h3 h4 h5 h6

/-- What holds between the operations of the region. -/
def JDeI (W : World) (rb q : Nat) (ak : Option Addr) (nk ck : Nat) (az : Option Addr) (nz cz : Nat) (kl : List Int) (sl : List ByteArray) (s s1 : ByteArray) (e e1 : Int) (vv : Int) (lm : List Int) (y0 y1 y2 y3 y6 y7 y8 y9 y10 y11 y12 y13 y14 y15 y16 y17 y18 y19 y20 y21 y22 y23 y24 y25 y26 y34 y35 y36 y37 y38 y39 y40 y41 y42 y43 : Value) (f : List Bool) (a : Act) (w : World) : Prop :=
  ∃ f0 f1 f2 f3 f4 f5 f6 f7 : Bool, f = [f0, f1, f2, f3, f4, f5, f6, f7] ∧ f7 = false ∧ ∃ x27 x28 x29 x30 x31 x32 x33 : Value,
    a = { tmps := #[y0, y1, y2, y3, .pointer (some ⟨rb, 0, none⟩), .pointer (some ⟨q, 0, none⟩), y6, y7, y8, y9, y10, y11, y12, y13, y14, y15, y16, y17, y18, y19, y20, y21, y22, y23, y24, y25, y26, x27, x28, x29, x30, x31, x32, x33, y34, y35, y36, y37, y38, y39, y40, y41, y42, y43], defers := [] } ∧ RegBI W rb q ak nk ck az nz cz kl sl s s1 e e1 f3 f5 w ∧
    Hid (f0 = true → x27 = .pointer (some ⟨q, 2, none⟩)) ∧
    Hid (f1 = true → x28 = .slice ak nk ck) ∧
    Hid (f2 = true → x29 = .pointer (some ⟨rb, 0, none⟩)) ∧
    Hid (f3 = true → x30 = .int .i64 vv) ∧
    Hid (f4 = true → f5 = false → f3 = true ∧ ∃ qq, x31 = .slice (some ⟨qq, 0, none⟩) 1 1 ∧ Cl w qq #[.int .i64 vv] 3) ∧
    Hid (f5 = true → f3 = true ∧ ∃ ao n c, x32 = .slice ao n c ∧ OwnI (rb + 1) w x32 (lm)) ∧
    Hid (f6 = true → x33 = .pointer (some ⟨q, 2, none⟩))
theorem JDeI.elim {W : World} {rb q : Nat} {ak : Option Addr} {nk ck : Nat} {az : Option Addr} {nz cz : Nat} {kl : List Int} {sl : List ByteArray} {s s1 : ByteArray} {e e1 : Int} {vv : Int} {lm : List Int} {y0 y1 y2 y3 y6 y7 y8 y9 y10 y11 y12 y13 y14 y15 y16 y17 y18 y19 y20 y21 y22 y23 y24 y25 y26 y34 y35 y36 y37 y38 y39 y40 y41 y42 y43 : Value} {f : List Bool} {a : Act} {w : World} {C : List Bool → Act → World → Prop} (h : JDeI W rb q ak nk ck az nz cz kl sl s s1 e e1 vv lm y0 y1 y2 y3 y6 y7 y8 y9 y10 y11 y12 y13 y14 y15 y16 y17 y18 y19 y20 y21 y22 y23 y24 y25 y26 y34 y35 y36 y37 y38 y39 y40 y41 y42 y43 f a w)
    (k : ∀ (f0 f1 f2 f3 f4 f5 f6 f7 : Bool) (x27 x28 x29 x30 x31 x32 x33 : Value), f7 = false → RegBI W rb q ak nk ck az nz cz kl sl s s1 e e1 f3 f5 w →
      Hid (f0 = true → x27 = .pointer (some ⟨q, 2, none⟩)) →
      Hid (f1 = true → x28 = .slice ak nk ck) →
      Hid (f2 = true → x29 = .pointer (some ⟨rb, 0, none⟩)) →
      Hid (f3 = true → x30 = .int .i64 vv) →
      Hid (f4 = true → f5 = false → f3 = true ∧ ∃ qq, x31 = .slice (some ⟨qq, 0, none⟩) 1 1 ∧ Cl w qq #[.int .i64 vv] 3) →
      Hid (f5 = true → f3 = true ∧ ∃ ao n c, x32 = .slice ao n c ∧ OwnI (rb + 1) w x32 (lm)) →
      Hid (f6 = true → x33 = .pointer (some ⟨q, 2, none⟩)) →
      C [f0, f1, f2, f3, f4, f5, f6, f7] { tmps := #[y0, y1, y2, y3, .pointer (some ⟨rb, 0, none⟩), .pointer (some ⟨q, 0, none⟩), y6, y7, y8, y9, y10, y11, y12, y13, y14, y15, y16, y17, y18, y19, y20, y21, y22, y23, y24, y25, y26, x27, x28, x29, x30, x31, x32, x33, y34, y35, y36, y37, y38, y39, y40, y41, y42, y43], defers := [] } w) : C f a w :=
  let ⟨f0, f1, f2, f3, f4, f5, f6, f7, ef, e, x27, x28, x29, x30, x31, x32, x33, ea, hB, h0, h1, h2, h3, h4, h5, h6⟩ := h
  ef ▸ ea ▸ k f0 f1 f2 f3 f4 f5 f6 f7 x27 x28 x29 x30 x31 x32 x33 e hB h0 h1 h2 h3 h4 h5 h6

set_option maxHeartbeats 16000000 in
set_option maxRecDepth 100000 in
theorem innerOf_any (S : ByteArray) (w : World) (hS : S.size ≤ 240) : Calls Try.prog 41 #[.string S] w (GvD w 2 S.data.toList) := by
  have BW : Below w.heap.size w (w.alloc (.cells #[.bool false, .slice none 0 0, .slice none 0 0, .slice none 0 0] 26)) := belAlloc _ (Below.refl _ _)
  have K1 : Cl (w.alloc (.cells #[.bool false, .slice none 0 0, .slice none 0 0, .slice none 0 0] 26)) w.heap.size #[.bool false, .slice none 0 0, .slice none 0 0, .slice none 0 0] 26 := Cl.new0 _ _ _
  have sz : (w.alloc (.cells #[.bool false, .slice none 0 0, .slice none 0 0, .slice none 0 0] 26)).heap.size = w.heap.size + 1 := by simp
  go_enter Try.func41, Try.ntmps41
  go_upto_region 1 with fail
  generalize w.alloc (.cells #[.bool false, .slice none 0 0, .slice none 0 0, .slice none 0 0] 26) = W at *
  have C0 : Hid _ := read_any S W
  have R0 : Hid (Rd W.heap.size S 0 (W.alloc (.cells #[.string S, .int .i64 0] 102))) := Rd.made S (by unfold maxLen; omega) W
  have B1 : Hid (Below W.heap.size W (W.alloc (.cells #[.string S, .int .i64 0] 102))) := belAlloc _ (Below.refl _ _)
  have sz1 : (W.alloc (.cells #[.string S, .int .i64 0] 102)).heap.size = W.heap.size + 1 := by simp
  obtain ⟨p, hp⟩ : ∃ p, w.heap.size = p := ⟨_, rfl⟩
  have HP : Hid (w.heap.size = p) := hp
  obtain ⟨rb, hrb⟩ : ∃ rb, W.heap.size = rb := ⟨_, rfl⟩
  have HRB : Hid (W.heap.size = rb) := hrb
  rw [hp] at K1 BW sz ⊢
  rw [hrb] at C0 R0 B1 sz sz1
  clear hp hrb
  have prb : p < rb := by omega
  have sz0 : rb + 1 ≤ (W.alloc (.cells #[.string S, .int .i64 0] 102)).heap.size := by omega
  clear sz sz1
  generalize W.alloc (.cells #[.string S, .int .i64 0] 102) = W1 at *
  go_upto_region 2 with (go_at_call 59; refine Calls.mono C0.out ?_; rintro e w1 ⟨rfl, rfl⟩)
  clear C0
  have C1 : Hid _ := int_any rb S 0 4 w1 R0.out
  have D0 : Hid _ := DkI.start S
  have z0 := rdInt_size S 0 4
  obtain ⟨T0, hT0⟩ : ∃ x, rdInt S 0 4 = x := ⟨_, rfl⟩
  rw [hT0] at C1 D0 z0
  clear hT0
  obtain ⟨k0, s0, e0⟩ := T0
  (try dsimp only at z0)
  go_wp2_with fail
  refine Calls.mono C1.out ?_
  rintro e w2 ⟨rfl, hr2, ho2⟩
  (try dsimp only at hr2)
  clear C1 R0
  have sz2 : rb + 1 ≤ w2.heap.size := Nat.le_trans sz0 (Nat.le_of_eq ho2.size.symm)
  have B2 : Hid (Below rb W w2) := B1.out.trans (ho2.below (Nat.le_refl _))
  have OI : Aside (OwnI (rb + 1) (w2.alloc (.cells #[.int .i64 k0] 3)) (.slice (some ⟨w2.heap.size, 0, none⟩) 1 1) [k0]) := ownI1 w2 k0 sz2
  have b3 : Below w2.heap.size w2 ((w2.alloc (.cells #[.int .i64 k0] 3)).alloc (.cells #[.bool false, .slice none 0 0, .slice (some ⟨w2.heap.size, 0, none⟩) 1 1, .slice none 0 0] 26)) := belAlloc _ (belAlloc _ (Below.refl _ _))
  have R3 : Hid (Rd rb s0 e0 ((w2.alloc (.cells #[.int .i64 k0] 3)).alloc (.cells #[.bool false, .slice none 0 0, .slice (some ⟨w2.heap.size, 0, none⟩) 1 1, .slice none 0 0] 26))) := hr2.below b3 (by omega)
  have KQ : Aside (Cl ((w2.alloc (.cells #[.int .i64 k0] 3)).alloc (.cells #[.bool false, .slice none 0 0, .slice (some ⟨w2.heap.size, 0, none⟩) 1 1, .slice none 0 0] 26)) (w2.heap.size + 1) #[.bool false, .slice none 0 0, .slice (some ⟨w2.heap.size, 0, none⟩) 1 1, .slice none 0 0] 26) := Cl.new1 _ _ _ _
  have OI2 : Aside (OwnI (rb + 1) ((w2.alloc (.cells #[.int .i64 k0] 3)).alloc (.cells #[.bool false, .slice none 0 0, .slice (some ⟨w2.heap.size, 0, none⟩) 1 1, .slice none 0 0] 26)) (.slice (some ⟨w2.heap.size, 0, none⟩) 1 1) [k0]) := ownsRow_below OI.out (belAlloc _ (Below.refl _ _))
  have B3 : Hid (Below rb W ((w2.alloc (.cells #[.int .i64 k0] 3)).alloc (.cells #[.bool false, .slice none 0 0, .slice (some ⟨w2.heap.size, 0, none⟩) 1 1, .slice none 0 0] 26))) := B2.out.trans (b3.mono (by omega))
  have hq : rb + 1 ≤ w2.heap.size + 1 := by omega
  clear OI b3 hr2 ho2 B2 B1
  go_wp2
  generalize ((w2.alloc (.cells #[.int .i64 k0] 3)).alloc (.cells #[.bool false, .slice none 0 0, .slice (some ⟨w2.heap.size, 0, none⟩) 1 1, .slice none 0 0] 26)) = W3 at *
  generalize w2.heap.size + 1 = q at *
  go_loopg [12] (S.size + 1) (fun kx s12 wr => ∃ (ak : Option Addr) (nk ck : Nat) (az : Option Addr) (nz cz : Nat) (out : List Pk) (s : ByteArray) (e : Int), s.size < kx + 1 ∧ out.length + s.size ≤ S.size ∧ Hid (szK (out.map (·.1)) ≤ 245 * out.length) ∧ Hid (Rd rb s e wr) ∧ Hid (DkI S s k0 e out) ∧ Aside (Cl wr q #[.bool false, .slice none 0 0, .slice ak nk ck, .slice az nz cz] 26) ∧ Aside (OwnI (rb + 1) wr (.slice ak nk ck) (k0 :: out.map (·.2))) ∧ Aside (OwnS (rb + 1) wr (.slice az nz cz) (out.map (·.1))) ∧ Hid (Below rb W wr))
  case atStart => exact ⟨_, _, _, _, _, _, [], s0, e0, by omega, by simp; omega, by show _ ≤ _; simp [szK], R3, D0, KQ, OI2, OwnS.empty _ _, B3⟩
  case round =>
    clear R3 KQ OI2 B3 D0
    obtain ⟨ak, nk, ck, az, nz, cz, out, s, e, hk, hsz, HZ, HR, HD, HQ, HI, HO, HB⟩ := hrel
    have CE : Hid _ := err_any rb s e wr HR.out
    have CL : Hid _ := left_any rb s e wr HR.out
    have hlt := HR.out.lt
    by_cases he : e = 0
    · subst he
      by_cases hs0 : s.size = 0
      · have hs1 : ¬ (0 : Int) < (s.size : Int) := by omega
        have CN : Hid _ := end_any rb s 0 wr HR.out
        have en : rdEnd s 0 = 0 := by simp [rdEnd, hs0]
        rw [en] at CN
        have G : Hid _ := HD.out.good hs0 hS
        have NX : NdO (rb + 1) wr (.slice none 0 0) (.slice ak nk ck) (.slice az nz cz) (inN k0 out) := ⟨OwnP.empty _ _, HI.out, HO.out⟩
        have sm : Sm (inN k0 out) := ⟨by simp [inN], by simp [inN]; omega, by simp [inN]; omega, by simp [inN, szL], by have := HZ.out; simp only [inN]; omega⟩
        have CR : Hid _ := nright_any (inN k0 out) _ _ _ wr NX.r sm
        have NW : Hid (NdW (rb + 1) wr (.slice none 0 0) (.slice ak nk ck) (.slice az nz cz) (inN k0 out)) := NX.w
        obtain ⟨c0, c1, c2, c3⟩ := HQ.out.four
        have k1 := clTo K1 HB.out (by omega)
        have lf : (inN k0 out).leaf = false := rfl
        rw [lf] at CR
        clear en HD hs0 NX sm HI HO HZ
        cases hr : rtN (inN k0 out) with
        | true =>
          rw [hr, if_pos rfl] at G
          rw [hr] at CR
          obtain ⟨r1, r2⟩ := deR_some G.out
          have R1 : Hid _ := r1
          have R2 : Hid _ := r2
          clear r1 r2 hr G
          go_wp2_with (first | (go_at_call 61; refine Calls.mono CE.out ?_; rintro e w' ⟨rfl, rfl⟩) | (go_at_call 62; refine Calls.mono CL.out ?_; rintro e w' ⟨rfl, rfl⟩) | (go_at_call 64; refine Calls.mono CN.out ?_; rintro e w' ⟨rfl, rfl⟩))
          refine Calls.mono CR.out ?_
          rintro e w5 ⟨rfl, hb5⟩
          have KQ5 := HQ.out.on hb5
          have k5 := k1.on hb5
          obtain ⟨d0, d1, d2, d3⟩ := KQ5.four
          obtain ⟨f0, f1, f2, f3⟩ := k5.four
          obtain ⟨g0, g1, g2, g3⟩ := k5.thaw
          have KX : Cl ((((w5.setCell ⟨p, 0, none⟩ (.bool false)).setCell ⟨p, 1, none⟩ (.slice none 0 0)).setCell ⟨p, 2, none⟩ (.slice ak nk ck)).setCell ⟨p, 3, none⟩ (.slice az nz cz)) p #[.bool false, .slice none 0 0, .slice ak nk ck, .slice az nz cz] 26 := k5.set4 _ _ _ _
          have BX : Hid (Below p w ((((w5.setCell ⟨p, 0, none⟩ (.bool false)).setCell ⟨p, 1, none⟩ (.slice none 0 0)).setCell ⟨p, 2, none⟩ (.slice ak nk ck)).setCell ⟨p, 3, none⟩ (.slice az nz cz))) := belSet4 (BW.trans ((HB.out.trans (hb5.mono (by omega))).mono (by omega))) (Nat.le_refl _)
          have OX : Hid (NdW p ((((w5.setCell ⟨p, 0, none⟩ (.bool false)).setCell ⟨p, 1, none⟩ (.slice none 0 0)).setCell ⟨p, 2, none⟩ (.slice ak nk ck)).setCell ⟨p, 3, none⟩ (.slice az nz cz)) (.slice none 0 0) (.slice ak nk ck) (.slice az nz cz) (inN k0 out)) := by
            have := NdW.set4 (q := p) (a := .bool false) (b := .slice none 0 0) (c := .slice ak nk ck) (d := .slice az nz cz) (NW.out.below hb5) (by omega)
            exact this.mono (by omega)
          clear K1 k1 k5 KQ5 hb5 BW NW c0 c1 c2 c3
          go_wp2
          (try simp only [Exit.inBlock, Exit.then])
          clear d0 d1 d2 d3 f0 f1 f2 f3 g0 g1 g2 g3
          generalize ((((w5.setCell ⟨p, 0, none⟩ (.bool false)).setCell ⟨p, 1, none⟩ (.slice none 0 0)).setCell ⟨p, 2, none⟩ (.slice ak nk ck)).setCell ⟨p, 3, none⟩ (.slice az nz cz)) = X at *
          obtain ⟨k0, k1, k2, k3⟩ := KX.four
          refine bodyPost_ret (v := .tuple #[.agg #[.bool false, .slice none 0 0, .slice ak nk ck, .slice az nz cz], .int .i64 0]) ?_ rfl ⟨_, _, _, by rw [R1.out, R2.out]; rfl, by rw [R1.out, HP.out]; exact OX.out, by rw [HP.out]; exact BX.out⟩
          rw [results_ct rfl]
          go_simp
        | false =>
          rw [hr, if_neg (by simp)] at G
          rw [hr] at CR
          obtain ⟨r1, r2⟩ := deR_none G.out
          have R1 : Hid _ := r1
          have R2 : Hid _ := r2
          clear r1 r2 hr G
          go_wp2_with (first | (go_at_call 61; refine Calls.mono CE.out ?_; rintro e w' ⟨rfl, rfl⟩) | (go_at_call 62; refine Calls.mono CL.out ?_; rintro e w' ⟨rfl, rfl⟩) | (go_at_call 64; refine Calls.mono CN.out ?_; rintro e w' ⟨rfl, rfl⟩))
          refine Calls.mono CR.out ?_
          rintro e w5 ⟨rfl, hb5⟩
          have k5 := k1.on hb5
          obtain ⟨f0, f1, f2, f3⟩ := k5.four
          obtain ⟨g0, g1, g2, g3⟩ := k5.thaw
          have KX : Cl ((((w5.setCell ⟨p, 0, none⟩ (.bool false)).setCell ⟨p, 1, none⟩ (.slice none 0 0)).setCell ⟨p, 2, none⟩ (.slice none 0 0)).setCell ⟨p, 3, none⟩ (.slice none 0 0)) p #[.bool false, .slice none 0 0, .slice none 0 0, .slice none 0 0] 26 := k5.set4 _ _ _ _
          have BX : Hid (Below p w ((((w5.setCell ⟨p, 0, none⟩ (.bool false)).setCell ⟨p, 1, none⟩ (.slice none 0 0)).setCell ⟨p, 2, none⟩ (.slice none 0 0)).setCell ⟨p, 3, none⟩ (.slice none 0 0))) := belSet4 (BW.trans ((HB.out.trans (hb5.mono (by omega))).mono (by omega))) (Nat.le_refl _)
          clear K1 k1 k5 hb5 BW NW c0 c1 c2 c3
          go_wp2
          (try simp only [Exit.inBlock, Exit.then])
          clear f0 f1 f2 f3 g0 g1 g2 g3
          generalize ((((w5.setCell ⟨p, 0, none⟩ (.bool false)).setCell ⟨p, 1, none⟩ (.slice none 0 0)).setCell ⟨p, 2, none⟩ (.slice none 0 0)).setCell ⟨p, 3, none⟩ (.slice none 0 0)) = X at *
          obtain ⟨k0, k1, k2, k3⟩ := KX.four
          refine bodyPost_ret (v := .tuple #[.agg #[.bool false, .slice none 0 0, .slice none 0 0, .slice none 0 0], .int .i64 3]) ?_ rfl ⟨_, _, _, by rw [R1.out, R2.out]; rfl, by rw [R1.out]; exact NdW.zero _ _, by rw [HP.out]; exact BX.out⟩
          rw [results_ct rfl]
          go_simp
      · have hs1 : (0 : Int) < (s.size : Int) := by omega
        obtain ⟨k1, k2⟩ := rd_pk s hs0
        have f1 := rdText_fst s 0
        obtain ⟨T1, hT1⟩ : ∃ T1, rdText s 0 = T1 := ⟨_, rfl⟩
        rw [hT1] at k1 k2 f1
        obtain ⟨kk, s1, e1⟩ := T1
        (try dsimp only at k1 k2 f1)
        obtain ⟨T2, hT2⟩ : ∃ T2, rdInt s1 e1 4 = T2 := ⟨_, rfl⟩
        rw [hT2] at k1 k2
        obtain ⟨vv, s2, e2⟩ := T2
        (try dsimp only at k1 k2)
        have TXS : Hid (rdText s 0 = (kk, s1, e1)) := hT1
        have HD2 : Hid (DkI S s2 k0 e2 (out ++ [(kk, vv)])) := HD.out.next hs0 k2
        have TT : Hid (rdInt s1 e1 4 = (vv, s2, e2)) := hT2
        clear hT1 hT2 k2 HD
        obtain ⟨o2, ho2⟩ : ∃ x, out ++ [(kk, vv)] = x := ⟨_, rfl⟩
        have l2 : o2.length = out.length + 1 := by rw [← ho2]; simp
        have m1 : Hid (out.map (·.1) ++ [kk] = o2.map (·.1)) := by show _ = _; rw [← ho2, pk_map1]
        have m2 : Hid ((k0 :: out.map (·.2)) ++ [vv] = k0 :: o2.map (·.2)) := by show _ = _; rw [← ho2, pk_map2]
        have HZ2 : Hid (szK (o2.map (·.1)) ≤ 245 * o2.length) := by
          show _ ≤ _
          have := HZ.out
          rw [← m1.out, szK_app, l2]
          have : szK [kk] = 5 + kk.size := by simp [szK]
          omega
        rw [ho2] at HD2
        clear ho2 HZ
        go_upto_region 4 with (first | (go_at_call 61; refine Calls.mono CE.out ?_; rintro e w' ⟨rfl, rfl⟩) | (go_at_call 62; refine Calls.mono CL.out ?_; rintro e w' ⟨rfl, rfl⟩))
        clear CE CL
        have LS : Hid ((out.map (·.1)).length < 100000) := by show _ < _; simp; omega
        have l3 : Hid ((k0 :: out.map (·.2)).length < 100000) := by show _ < _; simp; omega
        have LMS : Hid (out.map (·.1) ++ [kk] = o2.map (·.1)) := m1
        clear m1
        have hqr : q ≠ rb := by omega
        have ez : decide (0 < s.size) = true := decide_eq_true (by omega)
        simp only [ez]
        clear ez
        have ST : Hid (RegBS W rb q ak nk ck az nz cz (k0 :: out.map (·.2)) (out.map (·.1)) s s1 0 e1 false false wr.drew) := ⟨HQ.out, HB.out.drew, HI.out, ⟨HR.out.blk, HR.out.sz⟩, fun _ => HO.out, hqr⟩
        refine region_inv 7 (JDeS W rb q ak nk ck az nz cz (k0 :: out.map (·.2)) (out.map (·.1)) s s1 0 e1 kk (o2.map (·.1)) _ _ _ _ _ _ _ _ _ _ _ _ _ _ _ _ _ _ _ _ _ _ _ _ _ _ _ _ _ _ _ _ _ _ _) (by kernel_rfl) (by kernel_rfl) (by kernel_rfl) ⟨false, false, false, false, false, false, false, false, rfl, rfl, _, _, _, _, _, _, _, rfl, ST.out, (fun h => by cases h), (fun h => by cases h), (fun h => by cases h), (fun h => by cases h), (fun h => by cases h), (fun h => by cases h), (fun h => by cases h)⟩ ?_ ?_ ?_
        · intro i f a w' hne hl hJ
          refine JDeS.elim hJ (C := fun f a w' => i ∈ Region.ready .any _ f.toArray → wpOp _ _ _ i (fun a' w'' => JDeS W rb q ak nk ck az nz cz (k0 :: out.map (·.2)) (out.map (·.1)) s s1 0 e1 kk (o2.map (·.1)) _ _ _ _ _ _ _ _ _ _ _ _ _ _ _ _ _ _ _ _ _ _ _ _ _ _ _ _ _ _ _ _ _ _ _ (f.set i true) a' w'') a w') ?_
          clear hJ hl f a
          intro f0 f1 f2 f3 f4 f5 f6 f7 x20 x21 x22 x23 x24 x25 x26 e7 hB h0 h1 h2 h3 h4 h5 h6 hi
          obtain ⟨hlt, hun, _⟩ := ready_mem hi
          have hlt' : i < 8 := hlt
          clear hlt
          rcases (by omega : i = 0 ∨ i = 1 ∨ i = 2 ∨ i = 3 ∨ i = 4 ∨ i = 5 ∨ i = 6) with rfl | rfl | rfl | rfl | rfl | rfl | rfl
          · have un : f0 = false := hun
            clear hun
            clear hi hne hlt'
            refine wpOp_step rfl (fun K hK => ?_)
            have HK : Shut _ := hK
            clear hK
            go_simp
            refine HK.out _ _ ?_
            exact ⟨true, f1, f2, f3, f4, f5, f6, f7, rfl, e7, _, _, _, _, _, _, _, rfl, hB, (fun _ => rfl), h1, h2, h3, h4, h5, h6⟩
          · have un : f1 = false := hun
            clear hun
            have d0 : f0 = true := ready_dep 0 hi (by kernel_rfl)
            have y0 := h0.out d0
            subst y0
            clear hi hne hlt'
            obtain ⟨i0, i1, i2, i3⟩ := hB.k.four
            refine wpOp_step rfl (fun K hK => ?_)
            have HK : Shut _ := hK
            clear hK
            go_simp
            refine HK.out _ _ ?_
            exact ⟨f0, true, f2, f3, f4, f5, f6, f7, rfl, e7, _, _, _, _, _, _, _, rfl, hB, h0, (fun _ => rfl), h2, h3, h4, h5, h6⟩
          · have un : f2 = false := hun
            clear hun
            clear hi hne hlt'
            refine wpOp_step rfl (fun K hK => ?_)
            have HK : Shut _ := hK
            clear hK
            go_simp
            refine HK.out _ _ ?_
            exact ⟨f0, f1, true, f3, f4, f5, f6, f7, rfl, e7, _, _, _, _, _, _, _, rfl, hB, h0, h1, (fun _ => rfl), h3, h4, h5, h6⟩
          · have un : f3 = false := hun
            clear hun
            have d2 : f2 = true := ready_dep 2 hi (by kernel_rfl)
            have y2 := h2.out d2
            subst y2
            clear hi hne hlt'
            refine wpOp_step rfl (fun K hK => ?_)
            have HK : Shut _ := hK
            clear hK
            go_simp
            refine Calls.mono (by
                    have hr := hB.r
                    rw [un] at hr
                    have hh := rtext_any rb s 0 w' hr
                    rw [TXS.out] at hh
                    exact hh) ?_
            rintro e w1 ⟨rfl, r1, o1⟩
            refine HK.out _ _ ?_
            exact ⟨f0, f1, f2, true, f4, f5, f6, f7, rfl, e7, _, _, _, _, _, _, _, rfl, hB.read r1 o1 un, h0, h1, h2, (fun _ => rfl), (fun d t => by have e := (h4.out d t).1; rw [un] at e; cases e), (fun d => by have e := (h5.out d).1; rw [un] at e; cases e), h6⟩
          · have un : f4 = false := hun
            clear hun
            have d3 : f3 = true := ready_dep 3 hi (by kernel_rfl)
            have y3 := h3.out d3
            subst y3
            clear hi hne hlt'
            refine wpOp_step rfl (fun K hK => ?_)
            have HK : Shut _ := hK
            clear hK
            go_simp
            refine HK.out _ _ ?_
            exact ⟨f0, f1, f2, f3, true, f5, f6, f7, rfl, e7, _, _, _, _, _, _, _, rfl, hB.lay _, h0, h1, h2, h3, (fun _ _ => ⟨d3, _, rfl, Cl.new _ _ _⟩), (fun d => let ⟨n0, ao, n, c, e, o⟩ := h5.out d; ⟨n0, ao, n, c, e, ownsRow_below o (belAlloc _ (Below.refl _ _))⟩), h6⟩
          · have un : f5 = false := hun
            clear hun
            have d3 : f3 = true := ready_dep 3 hi (by kernel_rfl)
            have y3 := h3.out d3
            subst y3
            have d1 : f1 = true := ready_dep 1 hi (by kernel_rfl)
            have y1 := h1.out d1
            subst y1
            have d4 : f4 = true := ready_dep 4 hi (by kernel_rfl)
            obtain ⟨_, q4, y4, c4⟩ := h4.out d4 un
            subst y4
            clear hi hne hlt'
            refine wpOp_step rfl (fun K hK => ?_)
            have HK : Shut _ := hK
            clear hK
            refine op1S _ _ rfl (rb + 1) _ _ rfl (hB.o un) q4 _ _ rfl c4 LS.out hB.z _ LMS.out ?_
            intro ao nn cc w1 P1 Q1 T1 D1
            go_simp
            refine HK.out _ _ ?_
            exact ⟨f0, f1, f2, f3, f4, true, f6, f7, rfl, e7, _, _, _, _, _, _, _, rfl, hB.grow Q1 T1 D1, h0, h1, h2, h3, (fun _ t => by cases t), (fun _ => ⟨d3, ao, nn, cc, rfl, P1⟩), h6⟩
          · have un : f6 = false := hun
            clear hun
            clear hi hne hlt'
            refine wpOp_step rfl (fun K hK => ?_)
            have HK : Shut _ := hK
            clear hK
            go_simp
            refine HK.out _ _ ?_
            exact ⟨f0, f1, f2, f3, f4, f5, true, f7, rfl, e7, _, _, _, _, _, _, _, rfl, hB, h0, h1, h2, h3, h4, h5, (fun _ => rfl)⟩
        · intro f a w' hl hJ
          refine JDeS.elim hJ (C := fun f a w' => 7 ∈ Region.ready .any _ f.toArray → wpOp _ _ _ 7 _ a w') ?_
          clear hJ hl f a
          intro f0 f1 f2 f3 f4 f5 f6 f7 x20 x21 x22 x23 x24 x25 x26 e7 hB h0 h1 h2 h3 h4 h5 h6 hi
          have d5 : f5 = true := ready_dep 5 hi (by kernel_rfl)
          obtain ⟨u3, a5, n5, m5, y5, o5⟩ := h5.out d5
          subst y5
          have d6 : f6 = true := ready_dep 6 hi (by kernel_rfl)
          have y6 := h6.out d6
          subst y6
          clear hi
          obtain ⟨i0, i1, i2, i3⟩ := hB.k.four
          obtain ⟨g0, g1, g2, g3⟩ := hB.k.thaw
          refine wpOp_step rfl (fun K hK => ?_)
          have HK : Shut _ := hK
          clear hK
          go_simp
          refine HK.out _ _ ?_
          have u3' := u3
          subst u3'
          have ST : Hid (RegBI W rb q ak nk ck a5 n5 m5 (k0 :: out.map (·.2)) (o2.map (·.1)) s1 s2 e1 e2 false false (w'.setCell ⟨q, 3, none⟩ (.slice a5 n5 m5)).drew) := ⟨hB.k.set 3 _, (hB.b.setCell (p := ⟨q, 3, none⟩) (show rb ≤ q by omega) _).drew, own1T o5 hB.k (by decide), ⟨clSetNe hB.r.cl hB.ne _, hB.r.sz⟩, fun _ => own1T hB.other hB.k (by decide), hB.ne⟩
          have TX : Hid (rdInt s1 e1 4 = (vv, s2, e2)) := TT
          have LL : Hid ((k0 :: out.map (·.2)).length < 100000) := l3
          have LM : Hid ((k0 :: out.map (·.2)) ++ [vv] = k0 :: o2.map (·.2)) := m2
          clear hB o5 h0 h1 h2 h3 h4 h5 h6 LS TXS LMS TT m2
          go_upto_region 5 with fail
          clear i0 i1 i2 i3 g0 g1 g2 g3
          generalize (w'.setCell ⟨q, 3, none⟩ (.slice a5 n5 m5)) = w6 at *
          generalize a5 = b5 at *
          generalize n5 = k5 at *
          generalize m5 = d5' at *
          refine region_inv 7 (JDeI W rb q ak nk ck b5 k5 d5' (k0 :: out.map (·.2)) (o2.map (·.1)) s1 s2 e1 e2 vv (k0 :: o2.map (·.2)) _ _ _ _ _ _ _ _ _ _ _ _ _ _ _ _ _ _ _ _ _ _ _ _ _ _ _ _ _ _ _ _ _ _ _) (by kernel_rfl) (by kernel_rfl) (by kernel_rfl) ⟨false, false, false, false, false, false, false, false, rfl, rfl, _, _, _, _, _, _, _, rfl, ST.out, (fun h => by cases h), (fun h => by cases h), (fun h => by cases h), (fun h => by cases h), (fun h => by cases h), (fun h => by cases h), (fun h => by cases h)⟩ ?_ ?_ ?_
          · intro i f a w' hne hl hJ
            refine JDeI.elim hJ (C := fun f a w' => i ∈ Region.ready .any _ f.toArray → wpOp _ _ _ i (fun a' w'' => JDeI W rb q ak nk ck b5 k5 d5' (k0 :: out.map (·.2)) (o2.map (·.1)) s1 s2 e1 e2 vv (k0 :: o2.map (·.2)) _ _ _ _ _ _ _ _ _ _ _ _ _ _ _ _ _ _ _ _ _ _ _ _ _ _ _ _ _ _ _ _ _ _ _ (f.set i true) a' w'') a w') ?_
            clear hJ hl f a
            intro f0 f1 f2 f3 f4 f5 f6 f7 x27 x28 x29 x30 x31 x32 x33 e7 hB h0 h1 h2 h3 h4 h5 h6 hi
            obtain ⟨hlt, hun, _⟩ := ready_mem hi
            have hlt' : i < 8 := hlt
            clear hlt
            rcases (by omega : i = 0 ∨ i = 1 ∨ i = 2 ∨ i = 3 ∨ i = 4 ∨ i = 5 ∨ i = 6) with rfl | rfl | rfl | rfl | rfl | rfl | rfl
            · have un : f0 = false := hun
              clear hun
              clear hi hne hlt'
              refine wpOp_step rfl (fun K hK => ?_)
              have HK : Shut _ := hK
              clear hK
              go_simp
              refine HK.out _ _ ?_
              exact ⟨true, f1, f2, f3, f4, f5, f6, f7, rfl, e7, _, _, _, _, _, _, _, rfl, hB, (fun _ => rfl), h1, h2, h3, h4, h5, h6⟩
            · have un : f1 = false := hun
              clear hun
              have d0 : f0 = true := ready_dep 0 hi (by kernel_rfl)
              have y0 := h0.out d0
              subst y0
              clear hi hne hlt'
              obtain ⟨i0, i1, i2, i3⟩ := hB.k.four
              refine wpOp_step rfl (fun K hK => ?_)
              have HK : Shut _ := hK
              clear hK
              go_simp
              refine HK.out _ _ ?_
              exact ⟨f0, true, f2, f3, f4, f5, f6, f7, rfl, e7, _, _, _, _, _, _, _, rfl, hB, h0, (fun _ => rfl), h2, h3, h4, h5, h6⟩
            · have un : f2 = false := hun
              clear hun
              clear hi hne hlt'
              refine wpOp_step rfl (fun K hK => ?_)
              have HK : Shut _ := hK
              clear hK
              go_simp
              refine HK.out _ _ ?_
              exact ⟨f0, f1, true, f3, f4, f5, f6, f7, rfl, e7, _, _, _, _, _, _, _, rfl, hB, h0, h1, (fun _ => rfl), h3, h4, h5, h6⟩
            · have un : f3 = false := hun
              clear hun
              have d2 : f2 = true := ready_dep 2 hi (by kernel_rfl)
              have y2 := h2.out d2
              subst y2
              clear hi hne hlt'
              refine wpOp_step rfl (fun K hK => ?_)
              have HK : Shut _ := hK
              clear hK
              go_simp
              refine Calls.mono (by
                      have hr := hB.r
                      rw [un] at hr
                      have hh := int_any rb s1 e1 4 w' hr
                      rw [TX.out] at hh
                      exact hh) ?_
              rintro e w1 ⟨rfl, r1, o1⟩
              refine HK.out _ _ ?_
              exact ⟨f0, f1, f2, true, f4, f5, f6, f7, rfl, e7, _, _, _, _, _, _, _, rfl, hB.read r1 o1 un, h0, h1, h2, (fun _ => rfl), (fun d t => by have e := (h4.out d t).1; rw [un] at e; cases e), (fun d => by have e := (h5.out d).1; rw [un] at e; cases e), h6⟩
            · have un : f4 = false := hun
              clear hun
              have d3 : f3 = true := ready_dep 3 hi (by kernel_rfl)
              have y3 := h3.out d3
              subst y3
              clear hi hne hlt'
              refine wpOp_step rfl (fun K hK => ?_)
              have HK : Shut _ := hK
              clear hK
              go_simp
              refine HK.out _ _ ?_
              exact ⟨f0, f1, f2, f3, true, f5, f6, f7, rfl, e7, _, _, _, _, _, _, _, rfl, hB.lay _, h0, h1, h2, h3, (fun _ _ => ⟨d3, _, rfl, Cl.new _ _ _⟩), (fun d => let ⟨n0, ao, n, c, e, o⟩ := h5.out d; ⟨n0, ao, n, c, e, ownsRow_below o (belAlloc _ (Below.refl _ _))⟩), h6⟩
            · have un : f5 = false := hun
              clear hun
              have d3 : f3 = true := ready_dep 3 hi (by kernel_rfl)
              have y3 := h3.out d3
              subst y3
              have d1 : f1 = true := ready_dep 1 hi (by kernel_rfl)
              have y1 := h1.out d1
              subst y1
              have d4 : f4 = true := ready_dep 4 hi (by kernel_rfl)
              obtain ⟨_, q4, y4, c4⟩ := h4.out d4 un
              subst y4
              clear hi hne hlt'
              refine wpOp_step rfl (fun K hK => ?_)
              have HK : Shut _ := hK
              clear hK
              refine op1I _ _ rfl (rb + 1) _ _ rfl (hB.o un) q4 _ _ rfl c4 LL.out hB.z _ LM.out ?_
              intro ao nn cc w1 P1 Q1 T1 D1
              go_simp
              refine HK.out _ _ ?_
              exact ⟨f0, f1, f2, f3, f4, true, f6, f7, rfl, e7, _, _, _, _, _, _, _, rfl, hB.grow Q1 T1 D1, h0, h1, h2, h3, (fun _ t => by cases t), (fun _ => ⟨d3, ao, nn, cc, rfl, P1⟩), h6⟩
            · have un : f6 = false := hun
              clear hun
              clear hi hne hlt'
              refine wpOp_step rfl (fun K hK => ?_)
              have HK : Shut _ := hK
              clear hK
              go_simp
              refine HK.out _ _ ?_
              exact ⟨f0, f1, f2, f3, f4, f5, true, f7, rfl, e7, _, _, _, _, _, _, _, rfl, hB, h0, h1, h2, h3, h4, h5, (fun _ => rfl)⟩
          · intro f a w' hl hJ
            refine JDeI.elim hJ (C := fun f a w' => 7 ∈ Region.ready .any _ f.toArray → wpOp _ _ _ 7 _ a w') ?_
            clear hJ hl f a
            intro f0 f1 f2 f3 f4 f5 f6 f7 x27 x28 x29 x30 x31 x32 x33 e7 hB h0 h1 h2 h3 h4 h5 h6 hi
            have d5 : f5 = true := ready_dep 5 hi (by kernel_rfl)
            obtain ⟨u3, a5, n5, m5, y5, o5⟩ := h5.out d5
            subst y5
            have d6 : f6 = true := ready_dep 6 hi (by kernel_rfl)
            have y6 := h6.out d6
            subst y6
            clear hi
            obtain ⟨i0, i1, i2, i3⟩ := hB.k.four
            obtain ⟨g0, g1, g2, g3⟩ := hB.k.thaw
            refine wpOp_step rfl (fun K hK => ?_)
            have HK : Shut _ := hK
            clear hK
            go_simp
            refine HK.out _ _ ?_
            have u3' := u3
            subst u3'
            have KQ9 : Aside (Cl (w'.setCell ⟨q, 2, none⟩ (.slice a5 n5 m5)) q #[.bool false, .slice none 0 0, .slice a5 n5 m5, .slice b5 k5 d5'] 26) := hB.k.set 2 _
            have R9 : Hid (Rd rb s2 e2 (w'.setCell ⟨q, 2, none⟩ (.slice a5 n5 m5))) := hB.r.of (clSetNe hB.r.cl hB.ne _)
            have S9 : Aside (OwnS (rb + 1) (w'.setCell ⟨q, 2, none⟩ (.slice a5 n5 m5)) (.slice b5 k5 d5') (o2.map (·.1))) := own1T hB.other hB.k (by decide)
            have I9 : Aside (OwnI (rb + 1) (w'.setCell ⟨q, 2, none⟩ (.slice a5 n5 m5)) (.slice a5 n5 m5) (k0 :: o2.map (·.2))) := own1T o5 hB.k (by decide)
            have B9 : Hid (Below rb W (w'.setCell ⟨q, 2, none⟩ (.slice a5 n5 m5))) := hB.b.setCell (p := ⟨q, 2, none⟩) (show rb ≤ q by omega) _
            clear hB o5 h0 h1 h2 h3 h4 h5 h6 i0 i1 i2 i3 g0 g1 g2 g3
            generalize (w'.setCell ⟨q, 2, none⟩ (.slice a5 n5 m5)) = w9 at *
            go_wp2
            go_roundg s2.size
            case measure => omega
            case rel => exact ⟨a5, n5, m5, b5, k5, d5', o2, s2, e2, by omega, by omega, HZ2, R9, HD2, KQ9, I9, S9, B9⟩
          · rintro f a w' ⟨f0, f1, f2, f3, f4, f5, f6, f7, rfl, rfl, _⟩
            rfl
        · rintro f a w' ⟨f0, f1, f2, f3, f4, f5, f6, f7, rfl, rfl, _⟩
          rfl
    · have CN : Hid _ := end_any rb s e wr HR.out
      have en : rdEnd s e = e := by simp [rdEnd, he]
      rw [en] at CN
      obtain ⟨r1, r2⟩ := deR_none (HD.out.bad he hS)
      have R1 : Hid _ := r1
      have R2 : Hid _ := r2
      have e1 : (e == 0) = false := beq_eq_false_iff_ne.2 he
      have e2 : (e != 0) = true := by rw [bne_iff_ne]; exact he
      have k5 := clTo K1 HB.out (by omega)
      obtain ⟨f0, f1, f2, f3⟩ := k5.four
      obtain ⟨g0, g1, g2, g3⟩ := k5.thaw
      have KX : Cl ((((wr.setCell ⟨p, 0, none⟩ (.bool false)).setCell ⟨p, 1, none⟩ (.slice none 0 0)).setCell ⟨p, 2, none⟩ (.slice none 0 0)).setCell ⟨p, 3, none⟩ (.slice none 0 0)) p #[.bool false, .slice none 0 0, .slice none 0 0, .slice none 0 0] 26 := k5.set4 _ _ _ _
      have BX : Hid (Below p w ((((wr.setCell ⟨p, 0, none⟩ (.bool false)).setCell ⟨p, 1, none⟩ (.slice none 0 0)).setCell ⟨p, 2, none⟩ (.slice none 0 0)).setCell ⟨p, 3, none⟩ (.slice none 0 0))) := belSet4 (BW.trans (HB.out.mono (by omega))) (Nat.le_refl _)
      clear r1 r2 en HD he K1 k5 BW HI HO HQ HZ
      go_wp2_with (first | (go_at_call 61; refine Calls.mono CE.out ?_; rintro e w' ⟨rfl, rfl⟩) | (go_at_call 64; refine Calls.mono CN.out ?_; rintro e w' ⟨rfl, rfl⟩))
      (try simp only [Exit.inBlock, Exit.then])
      clear f0 f1 f2 f3 g0 g1 g2 g3
      generalize ((((wr.setCell ⟨p, 0, none⟩ (.bool false)).setCell ⟨p, 1, none⟩ (.slice none 0 0)).setCell ⟨p, 2, none⟩ (.slice none 0 0)).setCell ⟨p, 3, none⟩ (.slice none 0 0)) = X at *
      obtain ⟨k0, k1, k2, k3⟩ := KX.four
      refine bodyPost_ret (v := .tuple #[.agg #[.bool false, .slice none 0 0, .slice none 0 0, .slice none 0 0], .int .i64 3]) ?_ rfl ⟨_, _, _, by rw [R1.out, R2.out]; rfl, by rw [R1.out]; exact NdW.zero _ _, by rw [HP.out]; exact BX.out⟩
      rw [results_ct rfl]
      go_simp

end Go.Proofs.Ytmamnlphhiaeoaa

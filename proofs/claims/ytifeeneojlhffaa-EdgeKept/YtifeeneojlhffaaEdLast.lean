/-
  The walks of edge.last (with its two closures) and of edge.Apply.
-/
import Derived.Test.YtifeeneojlhffaaStAll
import Derived.Test.YtifeeneojlhffaaOps
import Derived.Test.YtifeeneojlhffaaRefOps
import Derived.Shelf.SlicesQ.Reverse
import Derived.Shelf.SlSortCmp.PdqK
namespace Go.Proofs.Ytifeeneojlhffaa
open Go.Shelf Go.RowKit Go.Lib Go.Sort

theorem stP : StP Try.prog where
  mixed := by kernel_rfl
  fSwap := Try.func92
  fRot := Try.func91
  fSym := Try.func87
  fStab := Try.func78
  fIns := enters_of Try.func86 (by kernel_rfl) rfl
  t0 := Try.underlying0
  a0 := Try.isAgg0
  z0 := Try.sizeOf0
  v0 := Try.zeroValue0
  t3 := Try.underlying3
  a3 := Try.isAgg3
  z3 := Try.sizeOf3
  v3 := Try.zeroValue3
  t4 := Try.underlying4
  a4 := Try.isAgg4
  z4 := Try.sizeOf4
  v4 := Try.zeroValue4
  tS := Try.underlying40
  aS := Try.isAgg40
  zS := Try.sizeOf40
  vS := Try.zeroValue40
  tF := Try.underlying80
  aF := Try.isAgg80
  zF := Try.sizeOf80
  vF := Try.zeroValue80
  tU := Try.underlying73
  aU := Try.isAgg73
  zU := Try.sizeOf73
  vU := Try.zeroValue73

set_option maxHeartbeats 1000000 in
theorem last1_any (x y : Ch) (w : World) : Calls Try.prog 61 #[.agg (encC x).toArray, .agg (encC y).toArray] w fun e w' => e = .returned (.int .i64 (cfP x.1 y.1)) ∧ ∃ q os', w' = grow (w.drewN q) os' := by
  obtain ⟨⟨a, b⟩, f⟩ := x
  obtain ⟨⟨c, d⟩, g⟩ := y
  show Calls Try.prog 61 #[.agg #[.int .i64 a, .int .i64 b, .bool f], .agg #[.int .i64 c, .int .i64 d, .bool g]] w _
  have HG : Hid (GR w ((w.alloc (.cells #[.int .i64 a, .int .i64 b, .bool f] 50)).alloc (.cells #[.int .i64 c, .int .i64 d, .bool g] 50))) := ((GR.refl w).alloc _).alloc _
  have HC : Hid (∀ W, Calls Try.prog 16 #[.agg #[.int .i64 a, .int .i64 b], .agg #[.int .i64 c, .int .i64 d]] W fun e w' => e = .returned (.int .i64 (cfP (a, b) (c, d))) ∧ GR W w') := fun W => cmp_any (a, b) (c, d) W
  generalize cfP (a, b) (c, d) = z at *
  go_enter Try.func61, Try.ntmps61
  go_wp2_with fail
  refine Calls.mono (HC.out _) ?_
  rintro e w1 ⟨rfl, hg⟩
  go_wp2
  go_ret
  exact ⟨rfl, HG.out.trans hg⟩

set_option maxHeartbeats 1000000 in
theorem last2_any (x y : Ch) (w : World) : Calls Try.prog 63 #[.agg (encC x).toArray, .agg (encC y).toArray] w fun e w' => e = .returned (.bool (decide (x.1 = y.1))) ∧ ∃ q os', w' = grow (w.drewN q) os' := by
  obtain ⟨x, f⟩ := x
  obtain ⟨y, g⟩ := y
  show Calls Try.prog 63 #[.agg #[.int .i64 x.1, .int .i64 x.2, .bool f], .agg #[.int .i64 y.1, .int .i64 y.2, .bool g]] w _
  have HG : Hid (GR w ((w.alloc (.cells #[.int .i64 x.1, .int .i64 x.2, .bool f] 50)).alloc (.cells #[.int .i64 y.1, .int .i64 y.2, .bool g] 50))) := ((GR.refl w).alloc _).alloc _
  simp only
  obtain ⟨z, hz⟩ : ∃ z, decide (x = y) = z := ⟨_, rfl⟩
  have E := fun W => eqlP (x := x) (y := y) hz W
  have G := gdP x y
  rw [hz]
  clear hz
  go_enter Try.func63, Try.ntmps63
  go_wp2
  go_ret
  exact ⟨rfl, HG.out⟩

def cfC (x y : Ch) : Int := cfP x.1 y.1
theorem ltOfC : ltOf cfC = fun x y : Ch => ltP x.1 y.1 := by
  funext x y
  exact ltOf_cfP x.1 y.1
theorem swoC : SWO (fun x y : Ch => ltP x.1 y.1) := ⟨fun x => ltP_irrefl x.1, fun _ _ _ => ltP_trans, fun _ _ _ => ltP_ntrans⟩

set_option maxHeartbeats 1000000 in
theorem sortStable_any (g off cap : Nat) (l : List Ch) (w : World) (hl : l.length ≤ 1000000) (hb : g < w.heap.size) (hH : HoldsK encC 3 w g off l.toArray) :
    Calls Try.prog 60 #[.slice (some ⟨g, off, none⟩) l.length cap, .func (.func 61) #[] #[]] w fun e w1 => e = .returned (.tuple #[]) ∧ ∃ d' : Array Ch, d'.size = l.length ∧ SortedIn (fun x y : Ch => ltP x.1 y.1) 0 l.length d' ∧ Stab (fun x y : Ch => ltP x.1 y.1) l d'.toList ∧ SWK encC 3 w g off d' w1 := by
  have R : RowK encC 3 w g off l.toArray := ⟨encC_len, encC_one, hH, hb⟩
  have eg : ∀ args w, (callFunc 61 args).run Try.prog w = .ok (.enter 61 args) w := enters_of Try.func61 (by kernel_rfl) rfl
  have hcmp : CmpLays Try.prog 61 #[] encC 3 cfC g off l.toArray.size w := fun _ _ _ _ x y => by simpa [cfC] using last1_any x y _
  have hO : SWO (ltOf cfC) := by rw [ltOfC]; exact swoC
  have hc := stable_any stP 3 Try.isAgg50 Try.sizeOf50 encC cfC hO 61 #[] g off cap l.length l.toArray l.toArray w w eg hcmp R (by simp) (by simp) (SWK.start hH) (by omega)
    (fun a b d w' hd S hab hbN => by
      have := AnyQ.insertionSortCmpFunc_w Try.insChange 3 Try.isAgg50 Try.sizeOf50 encC cfC 61 #[] g off cap a b l.toArray d w w' eg hcmp R (by simpa using hd.symm) S hO hab (by omega) (by omega)
      rw [hd] at this
      exact this)
  rw [ltOfC] at hc
  have HC : Hid _ := hc
  clear hc R hcmp hO hH
  go_enter Try.func60, Try.ntmps60
  go_wp2_with fail
  refine Calls.mono HC.out ?_
  rintro e w1 ⟨rfl, d', h1, h2, h3, h4⟩
  go_wp2
  go_end0
  exact ⟨rfl, d', h1, h2, by simpa using h3, h4⟩

theorem pairwiseC {d : Array Ch} (h : SortedIn (fun x y : Ch => ltP x.1 y.1) 0 d.size d) : d.toList.Pairwise (fun x y => ltP y.1 x.1 = false) := by
  rw [List.pairwise_iff_getElem]
  intro i j hi hj hij
  have hi' : i < d.size := by simpa using hi
  have hj' : j < d.size := by simpa using hj
  have := h i j (Nat.zero_le _) hij hj'
  rw [getElem!_pos d i hi', getElem!_pos d j hj'] at this
  simpa using this

set_option maxHeartbeats 1000000 in
theorem stable_short (ao : Option Addr) (cap : Nat) (w : World) : Calls Try.prog 60 #[.slice ao 0 cap, .func (.func 61) #[] #[]] w fun e w' => e = .returned (.tuple #[]) ∧ Below w.heap.size w w' := by
  have S0 : Calls Try.prog 78 #[.slice ao 0 cap, .int .i64 0, .func (.func 61) #[] #[]] w fun e w' => e = .returned (.tuple #[]) ∧ Below w.heap.size w w' := by
    have I0 : ∀ W, Calls Try.prog 86 #[.slice ao 0 cap, .int .i64 0, .int .i64 0, .func (.func 61) #[] #[]] W fun e w' => e = .returned (.tuple #[]) ∧ w' = W := by
      intro W
      go_enter Try.func86, Try.ntmps86
      go_wp2
      refine wp_loop_rounds 2 ?_
      repeat any_goals (rw [rounds_succ]; go_wp2)
      go_end0
      exact ⟨rfl, rfl⟩
    have HI : Hid (∀ W, Calls Try.prog 86 #[.slice ao 0 cap, .int .i64 0, .int .i64 0, .func (.func 61) #[] #[]] W fun e w' => e = .returned (.tuple #[]) ∧ w' = W) := I0
    clear I0
    go_enter Try.func78, Try.ntmps78
    go_wp2
    refine wp_loop_rounds 2 ?_
    rw [rounds_succ]
    go_wp2_with fail
    refine Calls.mono (HI.out _) ?_
    rintro e w1 ⟨rfl, rfl⟩
    go_wp2
    refine wp_loop_rounds 2 ?_
    repeat any_goals (rw [rounds_succ]; go_wp2)
    go_end0
    exact ⟨rfl, Below.refl _ _⟩
  have HC : Hid _ := S0
  clear S0
  go_enter Try.func60, Try.ntmps60
  go_wp2_with fail
  refine Calls.mono HC.out ?_
  rintro e w1 ⟨rfl, hb⟩
  go_wp2
  go_end0
  exact ⟨rfl, hb⟩

set_option maxHeartbeats 1000000 in
theorem compactF_short (ao : Option Addr) (cap : Nat) (w : World) : Calls Try.prog 62 #[.slice ao 0 cap, .func (.func 63) #[] #[]] w fun e w' => e = .returned (.slice ao 0 cap) ∧ w' = w := by
  go_enter Try.func62, Try.ntmps62
  go_wp2
  go_ret
  exact ⟨rfl, rfl⟩

end Go.Proofs.Ytifeeneojlhffaa

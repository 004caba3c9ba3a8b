/-
  The document's example of layer 14.
-/
import Derived.Test.YtljmkajpjjdnhaaGreatDoorTdLists
import Derived.Test.YtljmkajpjjdnhaaGreatDoorTdApply
import Derived.Test.YtljmkajpjjdnhaaGreatDoorBEnR
import Derived.Test.YtljmkajpjjdnhaaGreatDoorTdPassD
namespace Go.Proofs.YtljmkajpjjdnhaaGreatDoor.N
open Go.Shelf Go.RowKit Go.Lib Go.Sort
set_option linter.unusedVariables false
set_option linter.unusedSectionVars false
variable [DecidableEq Dl] [Inhabited Dl] [Inhabited Th]

abbrev kA : ByteArray := ⟨#[97]⟩
abbrev kB : ByteArray := ⟨#[98]⟩
abbrev kC : ByteArray := ⟨#[99]⟩
abbrev v1 : ByteArray := ⟨#[49]⟩
abbrev v2 : ByteArray := ⟨#[50]⟩
abbrev v3 : ByteArray := ⟨#[51]⟩
abbrev v4 : ByteArray := ⟨#[52]⟩
def wA : List En := [(kA, v1), (kB, v2)]
def wB : List En := [(kB, v3), (kC, v4)]
def wD : List Dl := [⟨kA, v1, ⟨#[]⟩, true, false⟩, ⟨kB, v2, v3, true, true⟩, ⟨kC, ⟨#[]⟩, v4, false, true⟩]
theorem ltS (a b : ByteArray) : ltK a b = Op.bytesLess a.data.toList b.data.toList := by unfold ltK; rw [Lib.toList_data, Lib.toList_data]
theorem wA_rg : Rg wA := ⟨by
  unfold Up wA
  refine List.pairwise_cons.2 ⟨fun y hy => ?_, List.pairwise_singleton _ _⟩
  rw [List.mem_singleton.1 hy, ltS]
  rfl, fun x hx => by
  unfold wA at hx
  rcases List.mem_cons.1 hx with e | e
  · rw [e]; rfl
  · rw [List.mem_singleton.1 e]; rfl⟩
theorem wB_rg : Rg wB := ⟨by
  unfold Up wB
  refine List.pairwise_cons.2 ⟨fun y hy => ?_, List.pairwise_singleton _ _⟩
  rw [List.mem_singleton.1 hy, ltS]
  rfl, fun x hx => by
  unfold wB at hx
  rcases List.mem_cons.1 hx with e | e
  · rw [e]; rfl
  · rw [List.mem_singleton.1 e]; rfl⟩
theorem wD_is : liL wA wB = wD := by
  unfold liL
  rw [rgB_of wA_rg, rgB_of wB_rg, if_pos (by rfl)]
  unfold wA wB
  have h1 : ltK kA kB = true := by rw [ltS]; rfl
  have h2 : ltK kB kB = false := ltK_irrefl _
  have n1 : v2 ≠ v3 := by intro e; have := congrArg ByteArray.data e; simp at this
  rw [mgD_go (by simp), mg1_cc, if_pos h1]
  show [dA (kA, v1)] ++ mgD [(kB, v2)] [(kB, v3), (kC, v4)] = _
  rw [mgD_go (by simp), mg1_cc, if_neg (by rw [h2]; simp), if_neg (by rw [h2]; simp), if_neg n1]
  show [dA (kA, v1)] ++ ([dC (kB, v2) (kB, v3)] ++ mgD [] [(kC, v4)]) = _
  rw [mgD_go (by simp)]
  show [dA (kA, v1)] ++ ([dC (kB, v2) (kB, v3)] ++ ([dB (kC, v4)] ++ mgD [] [])) = _
  rw [mgD_end]
  rfl
theorem wAp : apP wA wD = wB := by
  unfold apP
  rw [rgB_of wA_rg, if_pos rfl, ← wD_is]
  unfold liL
  rw [rgB_of wA_rg, rgB_of wB_rg, if_pos (by rfl)]
  exact apL_there wA_rg wB_rg

abbrev oA : Obj := .cells #[.string kA, .string v1, .string kB, .string v2] 39 (0, 0)
abbrev oB : Obj := .cells #[.string kB, .string v3, .string kC, .string v4] 39 (0, 0)
theorem rowA {w : World} {q : Nat} (h : w.heap[q]? = some oA) : Row encP 2 w (.slice (some ⟨q, 0, none⟩) 2 2) wA := row_block h (by kernel_rfl) rfl
theorem rowB {w : World} {q : Nat} (h : w.heap[q]? = some oB) : Row encP 2 w (.slice (some ⟨q, 0, none⟩) 2 2) wB := row_block h (by kernel_rfl) rfl
abbrev dlV (d : Dl) : Value := .agg #[.string d.key, .string d.old, .string d.new, .bool d.was, .bool d.is]
set_option maxRecDepth 100000 in
theorem equalD (d : Dl) (w : World) : (Op.equalIn 10000 37 (dlV d) (dlV d)).run Tryz.prog w = .ok true w := by
  have u3 := Tryz.underlying9
  have a3 := Tryz.isAgg9
  have z3 := Tryz.sizeOf9
  have u4 := Tryz.underlying4
  have a4 := Tryz.isAgg4
  have z4 := Tryz.sizeOf4
  have hS : Tryz.prog.underlying 37 = some (.struct (Tryz.prog.fieldsOf 37)) := by kernel_rfl
  have hp : Tryz.prog.stoodInHeld 37 = false := by kernel_rfl
  rw [show (10000 : Nat) = 9999 + 1 from rfl, run_equalIn_agg w 9999 37 _ _ hS hp]
  simp only [Program.fieldsOf, Tryz.underlying37]
  go_simp
theorem eqD (d : Dl) (w : World) : Sem.run Tryz.prog (binOp .eql 37 (dlV d) (dlV d)) w = .ok (.bool true) w := by
  rw [run_eql_struct, equalD]
  rfl
theorem gdD (op : BinOp) (a b : Operand) (x y : Dl) (w : World) : Sem.run Tryz.prog (eqGuard op 37 a b (dlV x) (dlV y)) w = .ok () w :=
  GuardAt.agg (P := Tryz.prog) (T := 37) (fun x : Dl => (encD x).toArray) (by kernel_rfl) op a b x y w

set_option maxRecDepth 100000 in
set_option maxHeartbeats 4000000 in
theorem works14 (PO : PassOk) (w : World) : Calls Tryz.prog 5 #[] w fun e w' => e = .returned (.bool true) ∧ Below w.heap.size w w' := by
  have HB0 : Hid (Below w.heap.size w ((w.alloc oA).alloc oB)) := ((Below.refl _ _).alloc (Nat.le_refl _) _).alloc (by simp) _
  have b0 : ((w.alloc oA).alloc oB).heap[w.heap.size]? = some oA := (Below.heap_alloc _ _ _ (by simp)).trans (World.alloc_heap_new w _)
  have b1 : ((w.alloc oA).alloc oB).heap[w.heap.size + 1]? = some oB := by have := World.alloc_heap_new (w.alloc oA) oB; rwa [World.size_alloc] at this
  have RA : Hid _ := rowA b0
  have RB : Hid _ := rowB b1
  have CL : Hid _ := lists_any PO _ _ wA wB RA.out RB.out (by decide) (by decide)
  rw [wD_is] at CL
  clear b0 b1
  go_enter Tryz.func5, Tryz.ntmps5
  go_wp2_with fail
  generalize (w.alloc oA).alloc oB = w2 at *
  generalize w.heap.size + 1 = q1 at *
  refine Calls.mono CL.out ?_
  rintro e w3 ⟨ad, cd, rfl, od, bd⟩
  have RD : Hid (Row encD 5 w3 (.slice ad 3 cd) wD) := (own_of_owns (by decide) od).row
  have B3 : Hid (Below w.heap.size w w3) := HB0.out.trans (bd.mono HB0.out.size)
  have RA3 : Hid (Row encP 2 w3 (.slice (some ⟨w.heap.size, 0, none⟩) 2 2) wA) := Row.to RA.out bd (Nat.le_refl _)
  have RB3 : Hid (Row encP 2 w3 (.slice (some ⟨q1, 0, none⟩) 2 2) wB) := Row.to RB.out bd (Nat.le_refl _)
  have CA : Hid _ := apply_any (.slice (some ⟨w.heap.size, 0, none⟩) 2 2) (.slice ad 3 cd) wA wD w3 RA3.out RD.out (by decide) (by decide) (fun d hd => by unfold wD at hd; rcases List.mem_cons.1 hd with e | e; (rw [e]; decide); rcases List.mem_cons.1 e with e | e; (rw [e]; decide); rw [List.mem_singleton.1 e]; decide) (fun x hx => by unfold wA at hx; rcases List.mem_cons.1 hx with e | e; (rw [e]; decide); rw [List.mem_singleton.1 e]; decide)
  rw [wAp] at CA
  clear CL od bd HB0 RA RB RA3
  have e3 : wD.length = 3 := rfl
  rw [e3]
  clear e3
  go_wp2_with fail
  refine Calls.mono CA.out ?_
  rintro e w4 ⟨v4, rfl, o4, b4⟩
  have CS : Hid _ := same_any v4 (.slice (some ⟨q1, 0, none⟩) 2 2) wB wB w4 o4.row (Row.to RB3.out b4 (Nat.le_refl _)) (by decide) (by decide)
  rw [decide_eq_true rfl] at CS
  have B4 : Hid (Below w.heap.size w w4) := B3.out.trans (b4.mono B3.out.size)
  have D4 : Hid (Below w3.heap.size w3 w4) := b4
  clear CA o4 b4 RB3 B3
  go_wp2_with fail
  refine Calls.mono CS.out ?_
  rintro e w5 ⟨rfl, b5⟩
  have B5 : Hid (Below w.heap.size w w5) := B4.out.trans (b5.mono B4.out.size)
  have D5 : Below w3.heap.size w3 w5 := D4.out.trans (b5.mono D4.out.size)
  obtain ⟨_, _, er, _, _, r3⟩ := id RD.out
  cases er
  obtain ⟨g, off, rfl, hg, x0, x1, x2, x3, x4⟩ := rowD_at r3 0 (by decide) D5
  obtain ⟨g', off', eg, _, y0, y1, y2, y3, y4⟩ := rowD_at r3 1 (by decide) D5
  cases eg
  obtain ⟨g', off', eg, _, z0, z1, z2, z3, z4⟩ := rowD_at r3 2 (by decide) D5
  cases eg
  have E0 : ∀ u, _ := fun u => eqD wD[0]! u
  have E1 : ∀ u, _ := fun u => eqD wD[1]! u
  have E2 : ∀ u, _ := fun u => eqD wD[2]! u
  have G0 : ∀ op a b u, _ := fun op a b u => gdD op a b wD[0]! wD[0]! u
  have G1 : ∀ op a b u, _ := fun op a b u => gdD op a b wD[1]! wD[1]! u
  have G2 : ∀ op a b u, _ := fun op a b u => gdD op a b wD[2]! wD[2]! u
  simp only [wD, List.getElem!_cons_zero, List.getElem!_cons_succ, Nat.zero_mul, Nat.add_zero, Nat.reduceMul, Nat.one_mul] at x0 x1 x2 x3 x4 y0 y1 y2 y3 y4 z0 z1 z2 z3 z4 E0 E1 E2 G0 G1 G2
  clear CS b5 D5 D4 B4 RD r3 hg
  go_wp2
  go_ret
  exact ⟨rfl, B5.out⟩
end Go.Proofs.YtljmkajpjjdnhaaGreatDoor.N

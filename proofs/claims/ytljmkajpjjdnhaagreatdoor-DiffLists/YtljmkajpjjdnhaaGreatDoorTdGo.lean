/-
  The walks of package treediff's goOnInA, goOnInB, passKey, where there are entries alone.
-/
import Derived.Test.YtljmkajpjjdnhaaGreatDoorTdStep
namespace Go.Proofs.YtljmkajpjjdnhaaGreatDoor.N
open Go.Shelf Go.RowKit Go.Lib Go.Sort
set_option linter.unusedVariables false
set_option linter.unusedSectionVars false
variable [DecidableEq Dl] [Inhabited Dl] [Inhabited Th]

/-- Two stacks, and what is told so far. -/
abbrev wkO (va vb vd : Value) : Obj := .cells #[.pointer none, .map none, va, vb, .int .i64 0, vd] 55 (0, 0)
def WkL (q : Nat) (a b : List En) (ds : List Dl) (l : List Res) (aa ab ad : Option Addr) (ca cb cd : Nat) : List Res :=
  Blk q (wkO (.slice aa a.length ca) (.slice ab b.length cb) (.slice ad ds.length cd)) :: StE (.slice aa a.length ca) a :: StE (.slice ab b.length cb) b :: DeR (.slice ad ds.length cd) ds :: l
def GW (B : Nat) (w0 : World) (q : Nat) (a b : List En) (ds : List Dl) (l : List Res) (e : Ending) (w' : World) : Prop :=
  ∃ aa ab ad ca cb cd, e = .returned (.int .i64 0) ∧ Sep B w0 w' (WkL q a b ds l aa ab ad ca cb cd)
theorem snocD {B : Nat} {w0 w : World} {l : List Res} {v : Value} {s : List Dl} {y : Dl} (h : Sep B w0 w (RowK 37 5 v (s.length + 1) ((flatK encD 5 s.toArray).toList ++ encD y) :: l)) : Sep B w0 w (DeR v (s ++ [y]) :: l) := by
  unfold DeR
  rw [List.length_append, List.length_singleton, flatK_snoc encD 5 encD_len]
  exact h
abbrev dlO (d : Dl) : Obj := .cells #[.string d.key, .string d.old, .string d.new, .bool d.was, .bool d.is] 37 (0, 0)

theorem goEnd {B : Nat} {w0 w : World} {l : List Res} {q qe r : Nat} {y : Dl} {oe od : Obj} {a b : List En} {ds : List Dl} {aa ab ad ad' : Option Addr} {ca cb cd cd' : Nat} (h : Sep B w0 w (RowK 37 5 (.slice ad' (ds.length + 1) cd') (ds.length + 1) ((flatK encD 5 ds.toArray).toList ++ encD y) :: Blk r od :: Blk q (wkO (.slice aa a.length ca) (.slice ab b.length cb) (.slice ad ds.length cd)) :: Blk qe oe :: StE (.slice aa a.length ca) a :: StE (.slice ab b.length cb) b :: l)) : Sep B w0 (w.setCell ⟨q, 5, none⟩ (.slice ad' (ds.length + 1) cd')) (WkL q a b (ds ++ [y]) l aa ab ad' ca cb cd') := by
  have h1 := (Sep.pk [_, _] (snocD h)).blkSet 5 (.slice ad' (ds.length + 1) cd')
  have h2 := (Sep.pk [_, _] h1).drop
  have h3 := (Sep.pk [_, _] h2).drop
  unfold WkL
  rw [List.length_append, List.length_singleton]
  exact (Sep.pk [_, _, _] (Sep.pk [_, _, _] h3).up1).up1
section
variable {B : Nat} {w0 w : World} {l : List Res} {q : Nat} {aa ab ad : Option Addr} {ca cb cd : Nat}
set_option maxRecDepth 100000 in
set_option maxHeartbeats 4000000 in
theorem goA_c (x : En) (a b : List En) (ds : List Dl) (hl : a.length ≤ 100000) (hd : ds.length < 100000) (h : Sep B w0 w (WkL q (x :: a) b ds l aa ab ad ca cb cd)) : Calls Tryz.prog 43 #[pt q, eV x.1 x.2] w (GW B w0 q a b (ds ++ [dA x]) l) := by
  obtain ⟨g, c, hv, hc, hg, hcell, h2⟩ := steTop h.up1
  cases hv
  clear hcell
  have C1 : Hid (∀ u, _) := fun u => isPage_c x.1 x.2 u
  have C2 : Hid (∀ u, _) := fun u => rest_c (some ⟨g, 0, none⟩) a.length ca hc (by omega) u
  have HN : Hid (ds.length < 1000000) := by show _ < _; omega
  have S1 : Hid (Sep B w0 ((w.alloc (eO x.1 x.2)).alloc (eO x.1 x.2)) (Blk q (wkO (.slice (some ⟨g, 0, none⟩) (a.length + 1) ca) (.slice ab b.length cb) (.slice ad ds.length cd)) :: Blk w.heap.size (eO x.1 x.2) :: StE (.slice (some ⟨g, 0, none⟩) a.length ca) a :: StE (.slice ab b.length cb) b :: DeR (.slice ad ds.length cd) ds :: l)) := by
    have h3 := h2.addBlk (eO x.1 x.2)
    exact Sep.pk [_, _] (h3.alloc (eO x.1 x.2))
  clear h h2 hc hg
  have k2 : ((w.alloc (eO x.1 x.2)).alloc (eO x.1 x.2)).cell? ⟨q, 2, none⟩ = some (.slice (some ⟨g, 0, none⟩) (a.length + 1) ca) := S1.out.cl.cell 2
  have f2 := S1.out.cl.frozen 2
  have hq := S1.out.cl.lt
  go_enter Tryz.func43, Tryz.ntmps43
  go_wp2_with (first | (go_at_call 45; refine Calls.mono (C1.out _) ?_; rintro e w1 ⟨rfl, rfl⟩) | (go_at_call 46; refine Calls.mono (C2.out _) ?_; rintro e w1 ⟨rfl, rfl⟩))
  have S2 : Hid (Sep B w0 (((w.alloc (eO x.1 x.2)).alloc (eO x.1 x.2)).setCell ⟨q, 2, none⟩ (.slice (some ⟨g, 0, none⟩) a.length ca)) (Blk q (wkO (.slice (some ⟨g, 0, none⟩) a.length ca) (.slice ab b.length cb) (.slice ad ds.length cd)) :: Blk w.heap.size (eO x.1 x.2) :: StE (.slice (some ⟨g, 0, none⟩) a.length ca) a :: StE (.slice ab b.length cb) b :: DeR (.slice ad ds.length cd) ds :: l)) := S1.out.blkSet 2 _
  clear S1 k2 f2 hq C1 C2
  generalize ((w.alloc (eO x.1 x.2)).alloc (eO x.1 x.2)).setCell ⟨q, 2, none⟩ (.slice (some ⟨g, 0, none⟩) a.length ca) = w2 at *
  generalize w.heap.size = qe at *
  have k5 : w2.cell? ⟨q, 5, none⟩ = some (.slice ad ds.length cd) := S2.out.cl.cell 5
  have y0 : w2.cell? ⟨qe, 0, none⟩ = some (.string x.1) := S2.out.up1.cl.cell 0
  have y4 : w2.cell? ⟨qe, 4, none⟩ = some (.string x.2) := S2.out.up1.cl.cell 4
  have SN : Hid (Sep B w0 (w2.drew.alloc (dlO (dA x))) (RowK 37 5 (.slice ad ds.length cd) ds.length (flatK encD 5 ds.toArray).toList :: Blk w2.heap.size (dlO (dA x)) :: Blk q (wkO (.slice (some ⟨g, 0, none⟩) a.length ca) (.slice ab b.length cb) (.slice ad ds.length cd)) :: Blk qe (eO x.1 x.2) :: StE (.slice (some ⟨g, 0, none⟩) a.length ca) a :: StE (.slice ab b.length cb) b :: l)) := Sep.pk [_, _, _, _, _] (S2.out.drew.addBlk (dlO (dA x)))
  have HNW : Hid _ := newsAt (news := encD (dA x)) SN.out.up1.blk
  have k5' : (w2.alloc (.cells #[.string x.1, .string x.2, .string ⟨#[]⟩, .bool true, .bool false] 37)).cell? ⟨q, 5, none⟩ = some (.slice ad ds.length cd) := (Sep.pk [_, _] SN.out).cl.cell 5
  go_region_law (refine stepK rfl rfl infoDelta Tryz.underlying29 rfl (by decide) (by decide) _ rfl SN.out rfl HNW.out rfl (encD_one _) HN.out ?_; intro ao3 c3 w3 s4; have z5 : w3.cell? ⟨q, 5, none⟩ = some (.slice ad ds.length cd) := (Sep.pk [_, _] s4).cl.cell 5; have z6 := (Sep.pk [_, _] s4).cl.frozen 5; have S4 : Hid (Sep B w0 (w3.setCell ⟨q, 5, none⟩ (.slice ao3 (ds.length + 1) c3)) (WkL q a b (ds ++ [dA x]) l (some ⟨g, 0, none⟩) ab ao3 ca cb c3)) := goEnd s4; clear s4)
  all_goals
    clear SN HNW k5 k5' y0 y4 S2
    (try go_wp2)
    go_ret
    exact ⟨_, _, _, _, _, _, rfl, S4.out⟩
set_option maxRecDepth 100000 in
set_option maxHeartbeats 4000000 in
theorem goB_c (y : En) (a b : List En) (ds : List Dl) (hl : b.length ≤ 100000) (hd : ds.length < 100000) (h : Sep B w0 w (WkL q a (y :: b) ds l aa ab ad ca cb cd)) : Calls Tryz.prog 44 #[pt q, eV y.1 y.2] w (GW B w0 q a b (ds ++ [dB y]) l) := by
  obtain ⟨g, c, hv, hc, hg, hcell, h2⟩ := steTop (Sep.pk [_, _] h)
  cases hv
  clear hcell
  have C1 : Hid (∀ u, _) := fun u => isPage_c y.1 y.2 u
  have C2 : Hid (∀ u, _) := fun u => rest_c (some ⟨g, 0, none⟩) b.length cb hc (by omega) u
  have HN : Hid (ds.length < 1000000) := by show _ < _; omega
  have S1 : Hid (Sep B w0 ((w.alloc (eO y.1 y.2)).alloc (eO y.1 y.2)) (Blk q (wkO (.slice aa a.length ca) (.slice (some ⟨g, 0, none⟩) (b.length + 1) cb) (.slice ad ds.length cd)) :: Blk w.heap.size (eO y.1 y.2) :: StE (.slice aa a.length ca) a :: StE (.slice (some ⟨g, 0, none⟩) b.length cb) b :: DeR (.slice ad ds.length cd) ds :: l)) := by
    have h3 := h2.addBlk (eO y.1 y.2)
    exact (Sep.pk [_, _] (h3.alloc (eO y.1 y.2))).map fun _ h => Hp.under h fun _ h => Hp.under h fun _ => Hp.swap
  clear h h2 hc hg
  have k2 : ((w.alloc (eO y.1 y.2)).alloc (eO y.1 y.2)).cell? ⟨q, 3, none⟩ = some (.slice (some ⟨g, 0, none⟩) (b.length + 1) cb) := S1.out.cl.cell 3
  have f2 := S1.out.cl.frozen 3
  have hq := S1.out.cl.lt
  go_enter Tryz.func44, Tryz.ntmps44
  go_wp2_with (first | (go_at_call 45; refine Calls.mono (C1.out _) ?_; rintro e w1 ⟨rfl, rfl⟩) | (go_at_call 46; refine Calls.mono (C2.out _) ?_; rintro e w1 ⟨rfl, rfl⟩))
  have S2 : Hid (Sep B w0 (((w.alloc (eO y.1 y.2)).alloc (eO y.1 y.2)).setCell ⟨q, 3, none⟩ (.slice (some ⟨g, 0, none⟩) b.length cb)) (Blk q (wkO (.slice aa a.length ca) (.slice (some ⟨g, 0, none⟩) b.length cb) (.slice ad ds.length cd)) :: Blk w.heap.size (eO y.1 y.2) :: StE (.slice aa a.length ca) a :: StE (.slice (some ⟨g, 0, none⟩) b.length cb) b :: DeR (.slice ad ds.length cd) ds :: l)) := S1.out.blkSet 3 _
  clear S1 k2 f2 hq C1 C2
  generalize ((w.alloc (eO y.1 y.2)).alloc (eO y.1 y.2)).setCell ⟨q, 3, none⟩ (.slice (some ⟨g, 0, none⟩) b.length cb) = w2 at *
  generalize w.heap.size = qe at *
  have k5 : w2.cell? ⟨q, 5, none⟩ = some (.slice ad ds.length cd) := S2.out.cl.cell 5
  have y0 : w2.cell? ⟨qe, 0, none⟩ = some (.string y.1) := S2.out.up1.cl.cell 0
  have y4 : w2.cell? ⟨qe, 4, none⟩ = some (.string y.2) := S2.out.up1.cl.cell 4
  have SN : Hid (Sep B w0 (w2.drew.alloc (dlO (dB y))) (RowK 37 5 (.slice ad ds.length cd) ds.length (flatK encD 5 ds.toArray).toList :: Blk w2.heap.size (dlO (dB y)) :: Blk q (wkO (.slice aa a.length ca) (.slice (some ⟨g, 0, none⟩) b.length cb) (.slice ad ds.length cd)) :: Blk qe (eO y.1 y.2) :: StE (.slice aa a.length ca) a :: StE (.slice (some ⟨g, 0, none⟩) b.length cb) b :: l)) := Sep.pk [_, _, _, _, _] (S2.out.drew.addBlk (dlO (dB y)))
  have HNW : Hid _ := newsAt (news := encD (dB y)) SN.out.up1.blk
  have k5' : (w2.alloc (.cells #[.string y.1, .string ⟨#[]⟩, .string y.2, .bool false, .bool true] 37)).cell? ⟨q, 5, none⟩ = some (.slice ad ds.length cd) := (Sep.pk [_, _] SN.out).cl.cell 5
  go_region_law (refine stepK rfl rfl infoDelta Tryz.underlying29 rfl (by decide) (by decide) _ rfl SN.out rfl HNW.out rfl (encD_one _) HN.out ?_; intro ao3 c3 w3 s4; have z5 : w3.cell? ⟨q, 5, none⟩ = some (.slice ad ds.length cd) := (Sep.pk [_, _] s4).cl.cell 5; have z6 := (Sep.pk [_, _] s4).cl.frozen 5; have S4 : Hid (Sep B w0 (w3.setCell ⟨q, 5, none⟩ (.slice ao3 (ds.length + 1) c3)) (WkL q a b (ds ++ [dB y]) l aa (some ⟨g, 0, none⟩) ao3 ca cb c3)) := goEnd s4; clear s4)
  all_goals
    clear SN HNW k5 k5' y0 y4 S2
    (try go_wp2)
    go_ret
    exact ⟨_, _, _, _, _, _, rfl, S4.out⟩
end
end Go.Proofs.YtljmkajpjjdnhaaGreatDoor.N

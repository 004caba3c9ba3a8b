/-
  The walk of package treediff's passKey.
-/
import Derived.Test.YtljmkajpjjdnhaaGreatDoorTdPassD
namespace Go.Proofs.YtljmkajpjjdnhaaGreatDoor.N
open Go.Shelf Go.RowKit Go.Lib Go.Sort
set_option linter.unusedVariables false
set_option linter.unusedSectionVars false
variable [DecidableEq Dl] [Inhabited Dl] [Inhabited Th]
section
variable {B : Nat} {w0 w : World} {l : List Res} {q : Nat} {aa ab ad : Option Addr} {ca cb cd : Nat}
set_option maxRecDepth 100000 in
set_option maxHeartbeats 4000000 in
theorem pass_c (x y : En) (a b : List En) (ds : List Dl) (hl : a.length ≤ 100000) (hl2 : b.length ≤ 100000) (hd : ds.length < 100000) (h : Sep B w0 w (WkL q (x :: a) (y :: b) ds l aa ab ad ca cb cd)) : Calls Tryz.prog 48 #[pt q, eV x.1 x.2, eV y.1 y.2] w (GP B w0 q a b (ds ++ if x.2 = y.2 then [] else [dC x y]) l) := by
  have HN : Hid (ds.length < 1000000) := by show _ < _; omega
  obtain ⟨g, c, hv, hc, hg, hcell, h2⟩ := steTop h.up1
  cases hv
  clear hcell
  obtain ⟨g2, c2, hv, hc2, hg2, hcell, h3⟩ := steTop (Sep.pk [_, _] h2)
  cases hv
  clear hcell
  have C1 : Hid (∀ u, _) := fun u => rest_c (some ⟨g, 0, none⟩) a.length ca hc (by omega) u
  have C2 : Hid (∀ u, _) := fun u => rest_c (some ⟨g2, 0, none⟩) b.length cb hc2 (by omega) u
  have S1 : Hid (Sep B w0 ((w.alloc (eO x.1 x.2)).alloc (eO y.1 y.2)) (Blk q (wkO (.slice (some ⟨g, 0, none⟩) (a.length + 1) ca) (.slice (some ⟨g2, 0, none⟩) (b.length + 1) cb) (.slice ad ds.length cd)) :: Blk (w.heap.size + 1) (eO y.1 y.2) :: Blk w.heap.size (eO x.1 x.2) :: StE (.slice (some ⟨g2, 0, none⟩) b.length cb) b :: StE (.slice (some ⟨g, 0, none⟩) a.length ca) a :: DeR (.slice ad ds.length cd) ds :: l)) := by
    have h4 := (h3.addBlk (eO x.1 x.2)).addBlk (eO y.1 y.2)
    simp only [World.size_alloc] at h4
    exact Sep.pk [_, _, _, _] h4
  clear h h2 h3 hc hg hc2 hg2
  have SS := S1.out
  have S2 : Hid (Sep B w0 ((((w.alloc (eO x.1 x.2)).alloc (eO y.1 y.2)).setCell ⟨q, 2, none⟩ (.slice (some ⟨g, 0, none⟩) a.length ca)).setCell ⟨q, 3, none⟩ (.slice (some ⟨g2, 0, none⟩) b.length cb)) (Blk q (wkO (.slice (some ⟨g, 0, none⟩) a.length ca) (.slice (some ⟨g2, 0, none⟩) b.length cb) (.slice ad ds.length cd)) :: Blk (w.heap.size + 1) (eO y.1 y.2) :: Blk w.heap.size (eO x.1 x.2) :: StE (.slice (some ⟨g2, 0, none⟩) b.length cb) b :: StE (.slice (some ⟨g, 0, none⟩) a.length ca) a :: DeR (.slice ad ds.length cd) ds :: l)) := (SS.blkSet 2 _).blkSet 3 _
  clear SS
  have k2 : ((w.alloc (eO x.1 x.2)).alloc (eO y.1 y.2)).cell? ⟨q, 2, none⟩ = some (.slice (some ⟨g, 0, none⟩) (a.length + 1) ca) := S1.out.cl.cell 2
  have k3 : ((w.alloc (eO x.1 x.2)).alloc (eO y.1 y.2)).cell? ⟨q, 3, none⟩ = some (.slice (some ⟨g2, 0, none⟩) (b.length + 1) cb) := S1.out.cl.cell 3
  have f2 := S1.out.cl.frozen 2
  have f3 := S1.out.cl.frozen 3
  by_cases hxy : x.2 = y.2
  · rw [if_pos hxy, List.append_nil]
    have hs : (x.2.toList == y.2.toList) = true := by rw [str_eq]; exact decide_eq_true hxy
    clear hxy
    go_enter Tryz.func48, Tryz.ntmps48
    go_wp2_with fail
    generalize (w.alloc (eO x.1 x.2)).alloc (eO y.1 y.2) = w1 at *
    refine wp_mono (Q := Exit.then (fun a' w' => a' = { tmps := #[pt q, eV x.1 x.2, eV y.1 y.2, undef, .pointer (some ⟨w.heap.size, 0, none⟩), .pointer (some ⟨w.heap.size + 1, 0, none⟩), pt q, pt q, pt q, .pointer (some ⟨q, 0, none⟩), .pointer (some ⟨q, 2, none⟩), .slice (some ⟨g, 0, none⟩) (a.length + 1) ca, .slice (some ⟨g, 0, none⟩) a.length ca, pt q, .pointer (some ⟨q, 0, none⟩), .pointer (some ⟨q, 3, none⟩), .slice (some ⟨g2, 0, none⟩) (b.length + 1) cb, .slice (some ⟨g2, 0, none⟩) b.length cb, .pointer (some ⟨q, 0, none⟩), .pointer (some ⟨q, 2, none⟩), .pointer (some ⟨q, 0, none⟩), .pointer (some ⟨q, 3, none⟩), undef, undef, undef, undef, undef, undef, undef, undef, undef, undef, undef, undef, undef, undef, undef, undef, undef, undef, undef, undef, undef, undef], defers := [] } ∧ w' = ((w1.setCell ⟨q, 2, none⟩ (.slice (some ⟨g, 0, none⟩) a.length ca)).setCell ⟨q, 3, none⟩ (.slice (some ⟨g2, 0, none⟩) b.length cb)).drew) (bodyPost Tryz.prog Tryz.f48 (GP B w0 q a b ds l))) ?reg ?goon
    case reg =>
      go_region_with (go_at_call 46; first | (refine Calls.mono (C1.out _) ?_; rintro e w1 ⟨rfl, rfl⟩) | (refine Calls.mono (C2.out _) ?_; rintro e w1 ⟨rfl, rfl⟩))
      all_goals exact ⟨rfl, rfl⟩
    case goon =>
      intro e a' w' hh
      cases e
      case' normal => skip
      all_goals first | exact hh | skip
      obtain ⟨rfl, rfl⟩ := hh
      clear C1 C2 S1 k2 k3 f2 f3
      generalize (w1.setCell ⟨q, 2, none⟩ (.slice (some ⟨g, 0, none⟩) a.length ca)).setCell ⟨q, 3, none⟩ (.slice (some ⟨g2, 0, none⟩) b.length cb) = w2 at *
      generalize w.heap.size + 1 = qy at *
      generalize w.heap.size = qx at *
      have x4 : w2.cell? ⟨qx, 4, none⟩ = some (.string x.2) := (Sep.pk [_, _] S2.out).cl.cell 4
      have y4 : w2.cell? ⟨qy, 4, none⟩ = some (.string y.2) := (Sep.pk [_] S2.out).cl.cell 4
      go_wp2
      go_end0
      exact ⟨_, _, _, _, _, _, rfl, (passEnd S2.out).drew⟩
  · rw [if_neg hxy]
    have hs : (x.2.toList == y.2.toList) = false := by rw [str_eq]; exact decide_eq_false hxy
    clear hxy
    go_enter Tryz.func48, Tryz.ntmps48
    go_wp2_with fail
    generalize (w.alloc (eO x.1 x.2)).alloc (eO y.1 y.2) = w1 at *
    refine wp_mono (Q := Exit.then (fun a' w' => a' = { tmps := #[pt q, eV x.1 x.2, eV y.1 y.2, undef, .pointer (some ⟨w.heap.size, 0, none⟩), .pointer (some ⟨w.heap.size + 1, 0, none⟩), pt q, pt q, pt q, .pointer (some ⟨q, 0, none⟩), .pointer (some ⟨q, 2, none⟩), .slice (some ⟨g, 0, none⟩) (a.length + 1) ca, .slice (some ⟨g, 0, none⟩) a.length ca, pt q, .pointer (some ⟨q, 0, none⟩), .pointer (some ⟨q, 3, none⟩), .slice (some ⟨g2, 0, none⟩) (b.length + 1) cb, .slice (some ⟨g2, 0, none⟩) b.length cb, .pointer (some ⟨q, 0, none⟩), .pointer (some ⟨q, 2, none⟩), .pointer (some ⟨q, 0, none⟩), .pointer (some ⟨q, 3, none⟩), undef, undef, undef, undef, undef, undef, undef, undef, undef, undef, undef, undef, undef, undef, undef, undef, undef, undef, undef, undef, undef, undef], defers := [] } ∧ w' = ((w1.setCell ⟨q, 2, none⟩ (.slice (some ⟨g, 0, none⟩) a.length ca)).setCell ⟨q, 3, none⟩ (.slice (some ⟨g2, 0, none⟩) b.length cb)).drew) (bodyPost Tryz.prog Tryz.f48 (GP B w0 q a b (ds ++ [dC x y]) l))) ?reg ?goon
    case reg =>
      go_region_with (go_at_call 46; first | (refine Calls.mono (C1.out _) ?_; rintro e w1 ⟨rfl, rfl⟩) | (refine Calls.mono (C2.out _) ?_; rintro e w1 ⟨rfl, rfl⟩))
      all_goals exact ⟨rfl, rfl⟩
    case goon =>
      intro e a' w' hh
      cases e
      case' normal => skip
      all_goals first | exact hh | skip
      obtain ⟨rfl, rfl⟩ := hh
      clear C1 C2 S1 k2 k3 f2 f3
      generalize (w1.setCell ⟨q, 2, none⟩ (.slice (some ⟨g, 0, none⟩) a.length ca)).setCell ⟨q, 3, none⟩ (.slice (some ⟨g2, 0, none⟩) b.length cb) = w2 at *
      generalize w.heap.size + 1 = qy at *
      generalize w.heap.size = qx at *
      have x0 : w2.cell? ⟨qx, 0, none⟩ = some (.string x.1) := (Sep.pk [_, _] S2.out).cl.cell 0
      have x4 : w2.cell? ⟨qx, 4, none⟩ = some (.string x.2) := (Sep.pk [_, _] S2.out).cl.cell 4
      have y4 : w2.cell? ⟨qy, 4, none⟩ = some (.string y.2) := (Sep.pk [_] S2.out).cl.cell 4
      have k5 : w2.cell? ⟨q, 5, none⟩ = some (.slice ad ds.length cd) := S2.out.cl.cell 5
      have SN : Hid (Sep B w0 (w2.alloc (dlO (dC x y))).drew.drew (RowK 37 5 (.slice ad ds.length cd) ds.length (flatK encD 5 ds.toArray).toList :: Blk w2.heap.size (dlO (dC x y)) :: Blk q (wkO (.slice (some ⟨g, 0, none⟩) a.length ca) (.slice (some ⟨g2, 0, none⟩) b.length cb) (.slice ad ds.length cd)) :: Blk qy (eO y.1 y.2) :: StE (.slice (some ⟨g, 0, none⟩) a.length ca) a :: StE (.slice (some ⟨g2, 0, none⟩) b.length cb) b :: l)) := by
        have h1 := (Sep.pk [_, _, _, _, _, _] (S2.out.addBlk (dlO (dC x y)))).drew.drew
        have h2 := (Sep.pk [_, _, _, _] h1).drop
        exact h2.map fun _ h => Hp.under h fun _ h => Hp.under h fun _ h => Hp.under h fun _ h => Hp.under h fun _ => Hp.swap
      have HNW : Hid _ := newsAt (news := encD (dC x y)) SN.out.up1.blk
      have k5' : (w2.alloc (.cells #[.string x.1, .string x.2, .string y.2, .bool true, .bool true] 37)).cell? ⟨q, 5, none⟩ = some (.slice ad ds.length cd) := (Sep.pk [_, _] SN.out).cl.cell 5
      go_wp2_with fail
      go_region_law (refine stepK rfl rfl infoDelta Tryz.underlying29 rfl (by decide) (by decide) _ rfl SN.out rfl HNW.out rfl (encD_one _) HN.out ?_; intro ao3 c3 w3 s4; have z5 : w3.cell? ⟨q, 5, none⟩ = some (.slice ad ds.length cd) := (Sep.pk [_, _] s4).cl.cell 5; have z6 := (Sep.pk [_, _] s4).cl.frozen 5; have S4 : Hid (Sep B w0 (w3.setCell ⟨q, 5, none⟩ (.slice ao3 (ds.length + 1) c3)) (WkL q a b (ds ++ [dC x y]) l (some ⟨g, 0, none⟩) (some ⟨g2, 0, none⟩) ao3 ca cb c3)) := goEnd s4; clear s4)
      all_goals
        clear SN HNW k5 k5' x0 x4 y4 S2
        (try go_wp2)
        go_end0
        exact ⟨_, _, _, _, _, _, rfl, S4.out⟩
theorem passOk : PassOk := fun x y a b ds h1 h2 h3 h => pass_c x y a b ds h1 h2 h3 h
end
end Go.Proofs.YtljmkajpjjdnhaaGreatDoor.N

/-
  The walks of package treediff's step and run, where there are entries alone.
-/
import Derived.Test.YtljmkajpjjdnhaaGreatDoorTdPassD
namespace Go.Proofs.YtljmkajpjjdnhaaGreatDoor.N
open Go.Shelf Go.RowKit Go.Lib Go.Sort
set_option linter.unusedVariables false
set_option linter.unusedSectionVars false
variable [DecidableEq Dl] [Inhabited Dl] [Inhabited Th]

theorem e5 {w : World} {q : Nat} {k v : ByteArray} (h : Cl w q #[.string k, .string ⟨#[]⟩, .int .i64 0, .int .i64 0, .string v] 51) : w.cell? ⟨q, 0, none⟩ = some (.string k) ∧ w.cell? ⟨q, 1, none⟩ = some (.string ⟨#[]⟩) ∧ w.cell? ⟨q, 2, none⟩ = some (.int .i64 0) ∧ w.cell? ⟨q, 3, none⟩ = some (.int .i64 0) ∧ w.cell? ⟨q, 4, none⟩ = some (.string v) := ⟨h.cell 0, h.cell 1, h.cell 2, h.cell 3, h.cell 4⟩
theorem GW.sub {B : Nat} {w0 : World} {q : Nat} {a b : List En} {ds : List Dl} {l1 l : List Res} {e : Ending} {w' : World} (h : GW B w0 q a b ds (l ++ l1) e w') : GW B w0 q a b ds l e w' := by
  obtain ⟨aa, ab, ad, ca, cb, cd, he, h⟩ := h
  exact ⟨aa, ab, ad, ca, cb, cd, he, Sep.front (WkL q a b ds l aa ab ad ca cb cd) h⟩
theorem GP.sub {B : Nat} {w0 : World} {q : Nat} {a b : List En} {ds : List Dl} {l1 l : List Res} {e : Ending} {w' : World} (h : GP B w0 q a b ds (l ++ l1) e w') : GP B w0 q a b ds l e w' := by
  obtain ⟨aa, ab, ad, ca, cb, cd, he, h⟩ := h
  exact ⟨aa, ab, ad, ca, cb, cd, he, Sep.front (WkL q a b ds l aa ab ad ca cb cd) h⟩
theorem wkBack {B : Nat} {w0 w : World} {q : Nat} {a b : List En} {ds : List Dl} {l l1 : List Res} {aa ab ad : Option Addr} {ca cb cd : Nat} (h : Sep B w0 w (l1 ++ WkL q a b ds l aa ab ad ca cb cd)) : Sep B w0 w (WkL q a b ds (l ++ l1) aa ab ad ca cb cd) := h.perm List.perm_append_comm

section
variable {B : Nat} {w0 w : World} {l : List Res} {q : Nat} {aa ab ad : Option Addr} {ca cb cd : Nat}
set_option maxRecDepth 100000 in
set_option maxHeartbeats 4000000 in
theorem stepA (x : En) (a : List En) (ds : List Dl) (hl : a.length ≤ 100000) (hd : ds.length < 100000)  (h : Sep B w0 w (WkL q (x :: a) ([]) ds l aa ab ad ca cb cd)) : Calls Tryz.prog 31 #[pt q] w (GW B w0 q a [] (ds ++ [dA x]) l) := by
  have k2 : w.cell? ⟨q, 2, none⟩ = some (.slice aa (a.length + 1) ca) := h.cl.cell 2
  have CT : Hid _ := top_some (by omega) h.up1
  have H0 : Hid (Sep B w0 w (WkL q (x :: a) ([]) ds l aa ab ad ca cb cd)) := h
  clear h
  go_enter Tryz.func31, Tryz.ntmps31
  go_wp2_with fail
  refine Calls.mono CT.out ?_
  rintro e w1 ⟨rfl, hb⟩
  have H1 : Hid (Sep B w0 (w1.alloc (eO x.1 x.2)) (Blk w1.heap.size (eO x.1 x.2) :: WkL q (x :: a) ([]) ds l aa ab ad ca cb cd)) := (H0.out.below hb).addBlk _
  clear H0 CT hb k2
  have k3 : (w1.alloc (eO x.1 x.2)).cell? ⟨q, 3, none⟩ = some (.slice ab 0 cb) := H1.out.up1.cl.cell 3
  have CT : Hid _ := top_none ab cb (w1.alloc (eO x.1 x.2))
  go_wp2_with fail
  generalize w1.alloc (eO x.1 x.2) = w2 at *
  generalize w1.heap.size = qx at *
  refine Calls.mono CT.out ?_
  rintro e w3 ⟨rfl, hb⟩
  have H2 : Hid (Sep B w0 (w3.alloc (eO ⟨#[]⟩ ⟨#[]⟩)) ([Blk w3.heap.size (eO ⟨#[]⟩ ⟨#[]⟩), Blk qx (eO x.1 x.2)] ++ WkL q (x :: a) ([]) ds l aa ab ad ca cb cd)) := (H1.out.below hb).addBlk _
  clear H1 CT hb k3
  obtain ⟨x0, x1, x2, x3, x4⟩ := e5 H2.out.up1.cl
  obtain ⟨y0, y1, y2, y3, y4⟩ := e5 H2.out.cl
  have CZ : Hid _ := goA_c x a [] ds hl hd (wkBack H2.out)
  go_wp2_with fail
  generalize w3.alloc (eO ⟨#[]⟩ ⟨#[]⟩) = w4 at *
  generalize w3.heap.size = qy at *
  refine Calls.mono CZ.out ?_
  rintro e w9 hG
  obtain ⟨aa', ab', ad', ca', cb', cd', rfl, s9⟩ := GW.sub hG
  have S9 : Hid _ := s9
  clear s9 hG CZ H2 x0 x1 x2 x3 x4 y0 y1 y2 y3 y4
  go_wp2
  go_ret
  exact ⟨_, _, _, _, _, _, rfl, S9.out⟩
set_option maxRecDepth 100000 in
set_option maxHeartbeats 4000000 in
theorem stepB (y : En) (b : List En) (ds : List Dl) (hl2 : b.length ≤ 100000) (hd : ds.length < 100000)  (h : Sep B w0 w (WkL q ([]) (y :: b) ds l aa ab ad ca cb cd)) : Calls Tryz.prog 31 #[pt q] w (GW B w0 q [] b (ds ++ [dB y]) l) := by
  have k2 : w.cell? ⟨q, 2, none⟩ = some (.slice aa 0 ca) := h.cl.cell 2
  have CT : Hid _ := top_none aa ca w
  have H0 : Hid (Sep B w0 w (WkL q ([]) (y :: b) ds l aa ab ad ca cb cd)) := h
  clear h
  go_enter Tryz.func31, Tryz.ntmps31
  go_wp2_with fail
  refine Calls.mono CT.out ?_
  rintro e w1 ⟨rfl, hb⟩
  have H1 : Hid (Sep B w0 (w1.alloc (eO ⟨#[]⟩ ⟨#[]⟩)) (Blk w1.heap.size (eO ⟨#[]⟩ ⟨#[]⟩) :: WkL q ([]) (y :: b) ds l aa ab ad ca cb cd)) := (H0.out.below hb).addBlk _
  clear H0 CT hb k2
  have k3 : (w1.alloc (eO ⟨#[]⟩ ⟨#[]⟩)).cell? ⟨q, 3, none⟩ = some (.slice ab (b.length + 1) cb) := H1.out.up1.cl.cell 3
  have CT : Hid _ := top_some (by omega) (Sep.pk [_, _, _] H1.out)
  go_wp2_with fail
  generalize w1.alloc (eO ⟨#[]⟩ ⟨#[]⟩) = w2 at *
  generalize w1.heap.size = qx at *
  refine Calls.mono CT.out ?_
  rintro e w3 ⟨rfl, hb⟩
  have H2 : Hid (Sep B w0 (w3.alloc (eO y.1 y.2)) ([Blk w3.heap.size (eO y.1 y.2), Blk qx (eO ⟨#[]⟩ ⟨#[]⟩)] ++ WkL q ([]) (y :: b) ds l aa ab ad ca cb cd)) := (H1.out.below hb).addBlk _
  clear H1 CT hb k3
  obtain ⟨x0, x1, x2, x3, x4⟩ := e5 H2.out.up1.cl
  obtain ⟨y0, y1, y2, y3, y4⟩ := e5 H2.out.cl
  have CZ : Hid _ := goB_c y [] b ds hl2 hd (wkBack H2.out)
  go_wp2_with fail
  generalize w3.alloc (eO y.1 y.2) = w4 at *
  generalize w3.heap.size = qy at *
  refine Calls.mono CZ.out ?_
  rintro e w9 hG
  obtain ⟨aa', ab', ad', ca', cb', cd', rfl, s9⟩ := GW.sub hG
  have S9 : Hid _ := s9
  clear s9 hG CZ H2 x0 x1 x2 x3 x4 y0 y1 y2 y3 y4
  go_wp2
  go_ret
  exact ⟨_, _, _, _, _, _, rfl, S9.out⟩
set_option maxRecDepth 100000 in
set_option maxHeartbeats 4000000 in
theorem stepL (x : En) (a : List En) (y : En) (b : List En) (ds : List Dl) (hl : a.length ≤ 100000) (hl2 : b.length ≤ 100000) (hd : ds.length < 100000) (hlt : ltK x.1 y.1 = true) (h : Sep B w0 w (WkL q (x :: a) (y :: b) ds l aa ab ad ca cb cd)) : Calls Tryz.prog 31 #[pt q] w (GW B w0 q a (y :: b) (ds ++ [dA x]) l) := by
  have k2 : w.cell? ⟨q, 2, none⟩ = some (.slice aa (a.length + 1) ca) := h.cl.cell 2
  have CT : Hid _ := top_some (by omega) h.up1
  have H0 : Hid (Sep B w0 w (WkL q (x :: a) (y :: b) ds l aa ab ad ca cb cd)) := h
  clear h
  go_enter Tryz.func31, Tryz.ntmps31
  go_wp2_with fail
  refine Calls.mono CT.out ?_
  rintro e w1 ⟨rfl, hb⟩
  have H1 : Hid (Sep B w0 (w1.alloc (eO x.1 x.2)) (Blk w1.heap.size (eO x.1 x.2) :: WkL q (x :: a) (y :: b) ds l aa ab ad ca cb cd)) := (H0.out.below hb).addBlk _
  clear H0 CT hb k2
  have k3 : (w1.alloc (eO x.1 x.2)).cell? ⟨q, 3, none⟩ = some (.slice ab (b.length + 1) cb) := H1.out.up1.cl.cell 3
  have CT : Hid _ := top_some (by omega) (Sep.pk [_, _, _] H1.out)
  go_wp2_with fail
  generalize w1.alloc (eO x.1 x.2) = w2 at *
  generalize w1.heap.size = qx at *
  refine Calls.mono CT.out ?_
  rintro e w3 ⟨rfl, hb⟩
  have H2 : Hid (Sep B w0 (w3.alloc (eO y.1 y.2)) ([Blk w3.heap.size (eO y.1 y.2), Blk qx (eO x.1 x.2)] ++ WkL q (x :: a) (y :: b) ds l aa ab ad ca cb cd)) := (H1.out.below hb).addBlk _
  clear H1 CT hb k3
  obtain ⟨x0, x1, x2, x3, x4⟩ := e5 H2.out.up1.cl
  obtain ⟨y0, y1, y2, y3, y4⟩ := e5 H2.out.cl
  have C0 : Hid _ := isPage_c x.1 x.2 (w3.alloc (eO y.1 y.2))
  go_wp2_with fail
  generalize w3.alloc (eO y.1 y.2) = w4 at *
  generalize w3.heap.size = qy at *
  refine Calls.mono C0.out ?_
  rintro e w5 ⟨rfl, hb⟩
  have HN : Hid (Sep B w0 w5 ([Blk qy (eO y.1 y.2), Blk qx (eO x.1 x.2)] ++ WkL q (x :: a) (y :: b) ds l aa ab ad ca cb cd)) := by rw [← hb]; exact H2.out.alloc _
  clear H2 C0 hb x0 x1 x2 x3 x4 y0 y1 y2 y3 y4
  have H2 : Hid (Sep B w0 w5 ([Blk qy (eO y.1 y.2), Blk qx (eO x.1 x.2)] ++ WkL q (x :: a) (y :: b) ds l aa ab ad ca cb cd)) := HN
  clear HN
  obtain ⟨x0, x1, x2, x3, x4⟩ := e5 H2.out.up1.cl
  obtain ⟨y0, y1, y2, y3, y4⟩ := e5 H2.out.cl
  have C1 : Hid _ := (by have := ahead_c x.1 x.2 y.1 y.2 (w5); rwa [hlt] at this : Calls Tryz.prog 47 #[eV x.1 x.2, eV y.1 y.2] (w5) fun e w' => e = .returned (.bool true) ∧ Below ((w5)).heap.size (w5) w')
  go_wp2_with fail
  refine Calls.mono C1.out ?_
  rintro e w6 ⟨rfl, hb⟩
  have HN : Hid (Sep B w0 w6 ([Blk qy (eO y.1 y.2), Blk qx (eO x.1 x.2)] ++ WkL q (x :: a) (y :: b) ds l aa ab ad ca cb cd)) := H2.out.below hb
  clear H2 C1 hb x0 x1 x2 x3 x4 y0 y1 y2 y3 y4
  have H2 : Hid (Sep B w0 w6 ([Blk qy (eO y.1 y.2), Blk qx (eO x.1 x.2)] ++ WkL q (x :: a) (y :: b) ds l aa ab ad ca cb cd)) := HN
  clear HN
  obtain ⟨x0, x1, x2, x3, x4⟩ := e5 H2.out.up1.cl
  obtain ⟨y0, y1, y2, y3, y4⟩ := e5 H2.out.cl
  have CZ : Hid _ := goA_c x a (y :: b) ds hl hd (wkBack H2.out)
  go_wp2_with fail
  refine Calls.mono CZ.out ?_
  rintro e w9 hG
  obtain ⟨aa', ab', ad', ca', cb', cd', rfl, s9⟩ := GW.sub hG
  have S9 : Hid _ := s9
  clear s9 hG CZ H2 x0 x1 x2 x3 x4 y0 y1 y2 y3 y4
  go_wp2
  go_ret
  exact ⟨_, _, _, _, _, _, rfl, S9.out⟩
set_option maxRecDepth 100000 in
set_option maxHeartbeats 4000000 in
theorem stepG (x : En) (a : List En) (y : En) (b : List En) (ds : List Dl) (hl : a.length ≤ 100000) (hl2 : b.length ≤ 100000) (hd : ds.length < 100000) (hlt : ltK x.1 y.1 = false) (hlt2 : ltK y.1 x.1 = true) (h : Sep B w0 w (WkL q (x :: a) (y :: b) ds l aa ab ad ca cb cd)) : Calls Tryz.prog 31 #[pt q] w (GW B w0 q (x :: a) b (ds ++ [dB y]) l) := by
  have k2 : w.cell? ⟨q, 2, none⟩ = some (.slice aa (a.length + 1) ca) := h.cl.cell 2
  have CT : Hid _ := top_some (by omega) h.up1
  have H0 : Hid (Sep B w0 w (WkL q (x :: a) (y :: b) ds l aa ab ad ca cb cd)) := h
  clear h
  go_enter Tryz.func31, Tryz.ntmps31
  go_wp2_with fail
  refine Calls.mono CT.out ?_
  rintro e w1 ⟨rfl, hb⟩
  have H1 : Hid (Sep B w0 (w1.alloc (eO x.1 x.2)) (Blk w1.heap.size (eO x.1 x.2) :: WkL q (x :: a) (y :: b) ds l aa ab ad ca cb cd)) := (H0.out.below hb).addBlk _
  clear H0 CT hb k2
  have k3 : (w1.alloc (eO x.1 x.2)).cell? ⟨q, 3, none⟩ = some (.slice ab (b.length + 1) cb) := H1.out.up1.cl.cell 3
  have CT : Hid _ := top_some (by omega) (Sep.pk [_, _, _] H1.out)
  go_wp2_with fail
  generalize w1.alloc (eO x.1 x.2) = w2 at *
  generalize w1.heap.size = qx at *
  refine Calls.mono CT.out ?_
  rintro e w3 ⟨rfl, hb⟩
  have H2 : Hid (Sep B w0 (w3.alloc (eO y.1 y.2)) ([Blk w3.heap.size (eO y.1 y.2), Blk qx (eO x.1 x.2)] ++ WkL q (x :: a) (y :: b) ds l aa ab ad ca cb cd)) := (H1.out.below hb).addBlk _
  clear H1 CT hb k3
  obtain ⟨x0, x1, x2, x3, x4⟩ := e5 H2.out.up1.cl
  obtain ⟨y0, y1, y2, y3, y4⟩ := e5 H2.out.cl
  have C0 : Hid _ := isPage_c x.1 x.2 (w3.alloc (eO y.1 y.2))
  go_wp2_with fail
  generalize w3.alloc (eO y.1 y.2) = w4 at *
  generalize w3.heap.size = qy at *
  refine Calls.mono C0.out ?_
  rintro e w5 ⟨rfl, hb⟩
  have HN : Hid (Sep B w0 w5 ([Blk qy (eO y.1 y.2), Blk qx (eO x.1 x.2)] ++ WkL q (x :: a) (y :: b) ds l aa ab ad ca cb cd)) := by rw [← hb]; exact H2.out.alloc _
  clear H2 C0 hb x0 x1 x2 x3 x4 y0 y1 y2 y3 y4
  have H2 : Hid (Sep B w0 w5 ([Blk qy (eO y.1 y.2), Blk qx (eO x.1 x.2)] ++ WkL q (x :: a) (y :: b) ds l aa ab ad ca cb cd)) := HN
  clear HN
  obtain ⟨x0, x1, x2, x3, x4⟩ := e5 H2.out.up1.cl
  obtain ⟨y0, y1, y2, y3, y4⟩ := e5 H2.out.cl
  have C1 : Hid _ := (by have := ahead_c x.1 x.2 y.1 y.2 (w5); rwa [hlt] at this : Calls Tryz.prog 47 #[eV x.1 x.2, eV y.1 y.2] (w5) fun e w' => e = .returned (.bool false) ∧ Below ((w5)).heap.size (w5) w')
  go_wp2_with fail
  refine Calls.mono C1.out ?_
  rintro e w6 ⟨rfl, hb⟩
  have HN : Hid (Sep B w0 w6 ([Blk qy (eO y.1 y.2), Blk qx (eO x.1 x.2)] ++ WkL q (x :: a) (y :: b) ds l aa ab ad ca cb cd)) := H2.out.below hb
  clear H2 C1 hb x0 x1 x2 x3 x4 y0 y1 y2 y3 y4
  have H2 : Hid (Sep B w0 w6 ([Blk qy (eO y.1 y.2), Blk qx (eO x.1 x.2)] ++ WkL q (x :: a) (y :: b) ds l aa ab ad ca cb cd)) := HN
  clear HN
  obtain ⟨x0, x1, x2, x3, x4⟩ := e5 H2.out.up1.cl
  obtain ⟨y0, y1, y2, y3, y4⟩ := e5 H2.out.cl
  have C2 : Hid _ := (by have := ahead_c y.1 y.2 x.1 x.2 (w6); rwa [hlt2] at this : Calls Tryz.prog 47 #[eV y.1 y.2, eV x.1 x.2] (w6) fun e w' => e = .returned (.bool true) ∧ Below ((w6)).heap.size (w6) w')
  go_wp2_with fail
  refine Calls.mono C2.out ?_
  rintro e w7 ⟨rfl, hb⟩
  have HN : Hid (Sep B w0 w7 ([Blk qy (eO y.1 y.2), Blk qx (eO x.1 x.2)] ++ WkL q (x :: a) (y :: b) ds l aa ab ad ca cb cd)) := H2.out.below hb
  clear H2 C2 hb x0 x1 x2 x3 x4 y0 y1 y2 y3 y4
  have H2 : Hid (Sep B w0 w7 ([Blk qy (eO y.1 y.2), Blk qx (eO x.1 x.2)] ++ WkL q (x :: a) (y :: b) ds l aa ab ad ca cb cd)) := HN
  clear HN
  obtain ⟨x0, x1, x2, x3, x4⟩ := e5 H2.out.up1.cl
  obtain ⟨y0, y1, y2, y3, y4⟩ := e5 H2.out.cl
  have CZ : Hid _ := goB_c y (x :: a) b ds hl2 hd (wkBack H2.out)
  go_wp2_with fail
  refine Calls.mono CZ.out ?_
  rintro e w9 hG
  obtain ⟨aa', ab', ad', ca', cb', cd', rfl, s9⟩ := GW.sub hG
  have S9 : Hid _ := s9
  clear s9 hG CZ H2 x0 x1 x2 x3 x4 y0 y1 y2 y3 y4
  go_wp2
  go_ret
  exact ⟨_, _, _, _, _, _, rfl, S9.out⟩
set_option maxRecDepth 100000 in
set_option maxHeartbeats 4000000 in
theorem stepE (x : En) (a : List En) (y : En) (b : List En) (ds : List Dl) (hl : a.length ≤ 100000) (hl2 : b.length ≤ 100000) (hd : ds.length < 100000) (PO : PassOk) (de : List Dl) (hde : Hid ((if x.2 = y.2 then ([] : List Dl) else [dC x y]) = de)) (hlt : ltK x.1 y.1 = false) (hlt2 : ltK y.1 x.1 = false) (h : Sep B w0 w (WkL q (x :: a) (y :: b) ds l aa ab ad ca cb cd)) : Calls Tryz.prog 31 #[pt q] w (GW B w0 q a b (ds ++ de) l) := by
  have k2 : w.cell? ⟨q, 2, none⟩ = some (.slice aa (a.length + 1) ca) := h.cl.cell 2
  have CT : Hid _ := top_some (by omega) h.up1
  have H0 : Hid (Sep B w0 w (WkL q (x :: a) (y :: b) ds l aa ab ad ca cb cd)) := h
  clear h
  go_enter Tryz.func31, Tryz.ntmps31
  go_wp2_with fail
  refine Calls.mono CT.out ?_
  rintro e w1 ⟨rfl, hb⟩
  have H1 : Hid (Sep B w0 (w1.alloc (eO x.1 x.2)) (Blk w1.heap.size (eO x.1 x.2) :: WkL q (x :: a) (y :: b) ds l aa ab ad ca cb cd)) := (H0.out.below hb).addBlk _
  clear H0 CT hb k2
  have k3 : (w1.alloc (eO x.1 x.2)).cell? ⟨q, 3, none⟩ = some (.slice ab (b.length + 1) cb) := H1.out.up1.cl.cell 3
  have CT : Hid _ := top_some (by omega) (Sep.pk [_, _, _] H1.out)
  go_wp2_with fail
  generalize w1.alloc (eO x.1 x.2) = w2 at *
  generalize w1.heap.size = qx at *
  refine Calls.mono CT.out ?_
  rintro e w3 ⟨rfl, hb⟩
  have H2 : Hid (Sep B w0 (w3.alloc (eO y.1 y.2)) ([Blk w3.heap.size (eO y.1 y.2), Blk qx (eO x.1 x.2)] ++ WkL q (x :: a) (y :: b) ds l aa ab ad ca cb cd)) := (H1.out.below hb).addBlk _
  clear H1 CT hb k3
  obtain ⟨x0, x1, x2, x3, x4⟩ := e5 H2.out.up1.cl
  obtain ⟨y0, y1, y2, y3, y4⟩ := e5 H2.out.cl
  have C0 : Hid _ := isPage_c x.1 x.2 (w3.alloc (eO y.1 y.2))
  go_wp2_with fail
  generalize w3.alloc (eO y.1 y.2) = w4 at *
  generalize w3.heap.size = qy at *
  refine Calls.mono C0.out ?_
  rintro e w5 ⟨rfl, hb⟩
  have HN : Hid (Sep B w0 w5 ([Blk qy (eO y.1 y.2), Blk qx (eO x.1 x.2)] ++ WkL q (x :: a) (y :: b) ds l aa ab ad ca cb cd)) := by rw [← hb]; exact H2.out.alloc _
  clear H2 C0 hb x0 x1 x2 x3 x4 y0 y1 y2 y3 y4
  have H2 : Hid (Sep B w0 w5 ([Blk qy (eO y.1 y.2), Blk qx (eO x.1 x.2)] ++ WkL q (x :: a) (y :: b) ds l aa ab ad ca cb cd)) := HN
  clear HN
  obtain ⟨x0, x1, x2, x3, x4⟩ := e5 H2.out.up1.cl
  obtain ⟨y0, y1, y2, y3, y4⟩ := e5 H2.out.cl
  have C1 : Hid _ := (by have := ahead_c x.1 x.2 y.1 y.2 (w5); rwa [hlt] at this : Calls Tryz.prog 47 #[eV x.1 x.2, eV y.1 y.2] (w5) fun e w' => e = .returned (.bool false) ∧ Below ((w5)).heap.size (w5) w')
  go_wp2_with fail
  refine Calls.mono C1.out ?_
  rintro e w6 ⟨rfl, hb⟩
  have HN : Hid (Sep B w0 w6 ([Blk qy (eO y.1 y.2), Blk qx (eO x.1 x.2)] ++ WkL q (x :: a) (y :: b) ds l aa ab ad ca cb cd)) := H2.out.below hb
  clear H2 C1 hb x0 x1 x2 x3 x4 y0 y1 y2 y3 y4
  have H2 : Hid (Sep B w0 w6 ([Blk qy (eO y.1 y.2), Blk qx (eO x.1 x.2)] ++ WkL q (x :: a) (y :: b) ds l aa ab ad ca cb cd)) := HN
  clear HN
  obtain ⟨x0, x1, x2, x3, x4⟩ := e5 H2.out.up1.cl
  obtain ⟨y0, y1, y2, y3, y4⟩ := e5 H2.out.cl
  have C2 : Hid _ := (by have := ahead_c y.1 y.2 x.1 x.2 (w6); rwa [hlt2] at this : Calls Tryz.prog 47 #[eV y.1 y.2, eV x.1 x.2] (w6) fun e w' => e = .returned (.bool false) ∧ Below ((w6)).heap.size (w6) w')
  go_wp2_with fail
  refine Calls.mono C2.out ?_
  rintro e w7 ⟨rfl, hb⟩
  have HN : Hid (Sep B w0 w7 ([Blk qy (eO y.1 y.2), Blk qx (eO x.1 x.2)] ++ WkL q (x :: a) (y :: b) ds l aa ab ad ca cb cd)) := H2.out.below hb
  clear H2 C2 hb x0 x1 x2 x3 x4 y0 y1 y2 y3 y4
  have H2 : Hid (Sep B w0 w7 ([Blk qy (eO y.1 y.2), Blk qx (eO x.1 x.2)] ++ WkL q (x :: a) (y :: b) ds l aa ab ad ca cb cd)) := HN
  clear HN
  obtain ⟨x0, x1, x2, x3, x4⟩ := e5 H2.out.up1.cl
  obtain ⟨y0, y1, y2, y3, y4⟩ := e5 H2.out.cl
  have C3 : Hid _ := isPage_c x.1 x.2 (w7)
  go_wp2_with fail
  refine Calls.mono C3.out ?_
  rintro e w8 ⟨rfl, hb⟩
  have HN : Hid (Sep B w0 w8 ([Blk qy (eO y.1 y.2), Blk qx (eO x.1 x.2)] ++ WkL q (x :: a) (y :: b) ds l aa ab ad ca cb cd)) := by rw [← hb]; exact H2.out.alloc _
  clear H2 C3 hb x0 x1 x2 x3 x4 y0 y1 y2 y3 y4
  have H2 : Hid (Sep B w0 w8 ([Blk qy (eO y.1 y.2), Blk qx (eO x.1 x.2)] ++ WkL q (x :: a) (y :: b) ds l aa ab ad ca cb cd)) := HN
  clear HN
  obtain ⟨x0, x1, x2, x3, x4⟩ := e5 H2.out.up1.cl
  obtain ⟨y0, y1, y2, y3, y4⟩ := e5 H2.out.cl
  have C4 : Hid _ := isPage_c y.1 y.2 (w8)
  go_wp2_with fail
  refine Calls.mono C4.out ?_
  rintro e w9 ⟨rfl, hb⟩
  have HN : Hid (Sep B w0 w9 ([Blk qy (eO y.1 y.2), Blk qx (eO x.1 x.2)] ++ WkL q (x :: a) (y :: b) ds l aa ab ad ca cb cd)) := by rw [← hb]; exact H2.out.alloc _
  clear H2 C4 hb x0 x1 x2 x3 x4 y0 y1 y2 y3 y4
  have H2 : Hid (Sep B w0 w9 ([Blk qy (eO y.1 y.2), Blk qx (eO x.1 x.2)] ++ WkL q (x :: a) (y :: b) ds l aa ab ad ca cb cd)) := HN
  clear HN
  obtain ⟨x0, x1, x2, x3, x4⟩ := e5 H2.out.up1.cl
  obtain ⟨y0, y1, y2, y3, y4⟩ := e5 H2.out.cl
  have CZ : Hid _ := (hde.out ▸ PO x y a b ds hl hl2 hd (wkBack H2.out) : Calls Tryz.prog 48 #[pt q, eV x.1 x.2, eV y.1 y.2] _ (GP B w0 q a b (ds ++ de) (l ++ [Blk qy (eO y.1 y.2), Blk qx (eO x.1 x.2)])))
  go_wp2_with fail
  refine Calls.mono CZ.out ?_
  rintro e w9 hG
  obtain ⟨aa', ab', ad', ca', cb', cd', rfl, s9⟩ := GP.sub hG
  have S9 : Hid _ := s9
  clear s9 hG CZ H2 x0 x1 x2 x3 x4 y0 y1 y2 y3 y4
  go_wp2
  go_ret
  exact ⟨_, _, _, _, _, _, rfl, S9.out⟩

theorem step_c (PO : PassOk) (a b : List En) (ds : List Dl) (hne : a ≠ [] ∨ b ≠ []) (hl : a.length ≤ 100000) (hl2 : b.length ≤ 100000) (hd : ds.length < 100000) (h : Sep B w0 w (WkL q a b ds l aa ab ad ca cb cd)) : Calls Tryz.prog 31 #[pt q] w (GW B w0 q (mg1 a b).2.1 (mg1 a b).2.2 (ds ++ (mg1 a b).1) l) := by
  match a, b, hne with
  | [], [], hne => simp at hne
  | x :: a, [], _ => exact stepA x a ds (by simp at hl; omega) hd h
  | [], y :: b, _ => exact stepB y b ds (by simp at hl2; omega) hd h
  | x :: a, y :: b, _ =>
    simp only [List.length_cons] at hl hl2
    rw [mg1_cc]
    by_cases l1 : ltK x.1 y.1 = true
    · rw [if_pos l1]; exact stepL x a y b ds (by omega) (by omega) hd l1 h
    · rw [if_neg l1]
      by_cases l2 : ltK y.1 x.1 = true
      · rw [if_pos l2]; exact stepG x a y b ds (by omega) (by omega) hd (by simpa using l1) l2 h
      · rw [if_neg l2]; exact stepE x a y b ds (by omega) (by omega) hd PO _ rfl (by simpa using l1) (by simpa using l2) h
theorem mg1_len (a b : List En) : (mg1 a b).1.length ≤ 1 := by
  match a, b with
  | [], [] => simp [mg1]
  | x :: a, [] => simp [mg1]
  | [], y :: b => simp [mg1]
  | x :: a, y :: b =>
    rw [mg1_cc]
    split
    · simp
    · split
      · simp
      · split <;> simp
theorem mg1_sub (a b : List En) : (mg1 a b).2.1.length ≤ a.length ∧ (mg1 a b).2.2.length ≤ b.length := by
  match a, b with
  | [], [] => simp [mg1]
  | x :: a, [] => simp [mg1]
  | [], y :: b => simp [mg1]
  | x :: a, y :: b =>
    rw [mg1_cc]
    split
    · simp
    · split
      · simp
      · simp
theorem mgD_len : ∀ (n : Nat) (a b : List En), a.length + b.length = n → (mgD a b).length ≤ n := by
  intro n
  induction n using Nat.strongRecOn with
  | ind n ih =>
    intro a b hn
    by_cases h : a ≠ [] ∨ b ≠ []
    · rw [mgD_go h, List.length_append]
      have h1 := mg1_less a b h
      have h2 := ih _ (by rw [← hn]; exact h1) _ _ rfl
      have h3 := mg1_len a b
      omega
    · simp only [not_or, Classical.not_not] at h
      rw [h.1, h.2, mgD_end]
      simp

set_option maxRecDepth 100000 in
set_option maxHeartbeats 4000000 in
theorem run_c (PO : PassOk) (a b : List En) (hl : a.length ≤ 40000) (hl2 : b.length ≤ 40000) (h : Sep B w0 w (WkL q a b [] l aa ab ad ca cb cd)) : Calls Tryz.prog 17 #[pt q] w fun e w' => ∃ ad' cd', e = .returned (.tuple #[.slice ad' (mgD a b).length cd', .int .i64 0]) ∧ Sep B w0 w' (DeR (.slice ad' (mgD a b).length cd') (mgD a b) :: l) := by
  have H0 : Hid (Sep B w0 w (WkL q a b [] l aa ab ad ca cb cd)) := h
  obtain ⟨R, hR⟩ : ∃ R, mgD a b = R := ⟨_, rfl⟩
  have HR : Hid (mgD a b = R) := hR
  rw [hR]
  clear h hR
  go_enter Tryz.func17, Tryz.ntmps17
  go_wp2
  go_loopg [4] (a.length + b.length) (fun kx s4 wr => ∃ a' b' ds' aa' ab' ad' ca' cb' cd', Hid (Sep B w0 wr (WkL q a' b' ds' l aa' ab' ad' ca' cb' cd')) ∧ Hid (ds' ++ mgD a' b' = R) ∧ a'.length + b'.length ≤ kx ∧ a'.length ≤ a.length ∧ b'.length ≤ b.length ∧ ds'.length + (a'.length + b'.length) ≤ a.length + b.length)
  case atStart => exact ⟨a, b, [], aa, ab, ad, ca, cb, cd, H0, HR, Nat.le_refl _, Nat.le_refl _, Nat.le_refl _, by simp⟩
  case round =>
    obtain ⟨a', b', ds', aa', ab', ad', ca', cb', cd', HS, HD, hk, ha, hb, hds⟩ := hrel
    clear H0 HR
    have k2 : wr.cell? ⟨q, 2, none⟩ = some (.slice aa' a'.length ca') := HS.out.cl.cell 2
    have k3 : wr.cell? ⟨q, 3, none⟩ = some (.slice ab' b'.length cb') := HS.out.cl.cell 3
    have k5 : wr.cell? ⟨q, 5, none⟩ = some (.slice ad' ds'.length cd') := HS.out.cl.cell 5
    by_cases hne : a' ≠ [] ∨ b' ≠ []
    · have CS : Hid _ := step_c PO a' b' ds' hne (by omega) (by omega) (by
        rcases hne with e | e
        · have := List.length_pos_iff.2 e; omega
        · have := List.length_pos_iff.2 e; omega) HS.out
      have HG : Hid ((ds' ++ (mg1 a' b').1) ++ mgD (mg1 a' b').2.1 (mg1 a' b').2.2 = R) := by
        show _ = _
        rw [List.append_assoc, ← mgD_go hne]; exact HD.out
      have g1 := mg1_less a' b' hne
      obtain ⟨g2, g3⟩ := mg1_sub a' b'
      have g4 := mg1_len a' b'
      have hz : 0 < a'.length ∨ 0 < b'.length := hne.imp List.length_pos_iff.2 List.length_pos_iff.2
      clear hne HD
      generalize mg1 a' b' = M at *
      obtain ⟨md, ma, mb⟩ := M
      dsimp only at *
      have g5 : ds'.length + md.length + (ma.length + mb.length) ≤ a.length + b.length := by omega
      rcases Nat.eq_zero_or_pos a'.length with z | z
      · have zb : 0 < b'.length := by omega
        have q1 : ¬ (0 : Int) < (a'.length : Int) := by omega
        have q2 : (0 : Int) < (b'.length : Int) := by omega
        go_wp2_with (go_at_call 31; refine Calls.mono CS.out ?_; rintro e w1 ⟨aa2, ab2, ad2, ca2, cb2, cd2, rfl, s2⟩; have S2 : Hid _ := s2; clear s2)
        go_roundg (ma.length + mb.length)
        case measure => omega
        case rel => exact ⟨ma, mb, ds' ++ md, aa2, ab2, ad2, ca2, cb2, cd2, S2, HG, Nat.le_refl _, by omega, by omega, by rw [List.length_append]; exact g5⟩
      · have q1 : (0 : Int) < (a'.length : Int) := by omega
        go_wp2_with (go_at_call 31; refine Calls.mono CS.out ?_; rintro e w1 ⟨aa2, ab2, ad2, ca2, cb2, cd2, rfl, s2⟩; have S2 : Hid _ := s2; clear s2)
        go_roundg (ma.length + mb.length)
        case measure => omega
        case rel => exact ⟨ma, mb, ds' ++ md, aa2, ab2, ad2, ca2, cb2, cd2, S2, HG, Nat.le_refl _, by omega, by omega, by rw [List.length_append]; exact g5⟩
    · simp only [not_or, Classical.not_not] at hne
      obtain ⟨rfl, rfl⟩ := hne
      have E : Hid (ds' = R) := by
        have := HD.out
        rw [mgD_end, List.append_nil] at this
        exact this
      have S9 : Hid (Sep B w0 wr (DeR (.slice ad' ds'.length cd') ds' :: l)) := HS.out.drop.drop.drop
      clear HS HD hk ha hb hds
      simp only [List.length_nil] at k2 k3
      go_wp2
      go_ret2
      refine ⟨ad', cd', ?_, ?_⟩
      · rw [← E.out]; rfl
      · rw [← E.out]; exact S9.out
end
end Go.Proofs.YtljmkajpjjdnhaaGreatDoor.N

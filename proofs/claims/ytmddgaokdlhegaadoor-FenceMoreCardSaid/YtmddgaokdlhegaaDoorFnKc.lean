/-
  What may be asked, what is within limits.
-/
import Derived.Test.YtmddgaokdlhegaaDoorRows
import Derived.Test.YtmddgaokdlhegaaDoorKit
import Derived.Test.YtmddgaokdlhegaaDoorApp
import Derived.Test.YtmddgaokdlhegaaDoorQuiet
import Derived.Test.YtmddgaokdlhegaaDoorFnM
import Derived.Test.YtmddgaokdlhegaaDoorFnO
import Derived.Test.YtmddgaokdlhegaaDoorFnB
import Derived.Test.YtmddgaokdlhegaaDoorFnR
import Derived.Test.YtmddgaokdlhegaaDoorFnL
import Derived.Test.YtmddgaokdlhegaaDoorFnN
import Derived.Test.YtmddgaokdlhegaaDoorAsF
import Derived.Test.YtmddgaokdlhegaaDoorAsC
import Derived.Test.YtmddgaokdlhegaaDoorAsD
import Derived.Test.YtmddgaokdlhegaaDoorAsE
import Derived.Test.YtmddgaokdlhegaaDoorFnKa
import Derived.WalkKit
import Derived.ProofKit
import Derived.OpenShut
import Derived.ShutString
import Derived.Below
import Derived.Outline
import Derived.WalkLawsBesides
import Derived.WalkSpells
import Derived.Handy
import Derived.Deep.QuietTactic
import Derived.BigQuiet
import Derived.RegionTactic
import Derived.ChangeAlike
import Derived.Lib.Hide
import Derived.Laws.Rows
import Derived.Laws.Tables
import Derived.Laws.CopyOwn
import Derived.Laws.MakeOwn
import Derived.Laws.Entries
import Derived.Laws.OwnMore
import Derived.Deep.WholeRow
import Derived.Deep.LoopGhost
import Derived.Deep.AppendLies
import Derived.Deep.Draws
import Derived.Maps.AppendAt
import Derived.OwnWalk
import Derived.Deep.RegionHeld3
import Derived.Deep.Cut
import Derived.Deep.CutRange
import Derived.Deep.DeepCutAuto
import Derived.Deep.CutBlock
import Derived.Lib.SliceRun
import Derived.IntWalk
namespace Go.Proofs.YtmddgaokdlhegaaDoor
open Go.ChangeShapes Go.WideShapes Go.ChangeAt Go.RowKit
set_option maxRecDepth 100000 in
set_option maxHeartbeats 8000000 in
theorem may_gap1 (F base : Nat) (ls : List Lim) (k : Nat) (x : Lim) (a : As) (u : Us) (last : Int) (w : World) (h : FAt w F base ls) (hx : ls[k]? = some x) (hl : ls.length ≤ 100) (hk : a.k = 1) (hu : Usm u) (hq : sm a.q) (hp : sm a.p) (k0 : (usWith u a).o ≤ x.o) (k1 : (usWith u a).q ≤ x.q) (k2 : (usWith u a).w ≤ x.w) (k3 : far (usWith u a) ≤ x.n) (hl0 : 0 < last) (hl1 : last ≤ 1073741824) (hh0 : a.p - last < last - a.p) (hg : gap a.p last ≤ x.p) : Calls Tryd.prog 11 #[.pointer (some ⟨F, 0, none⟩), .int .i64 (k : Int), .agg #[.int .i64 a.k, .int .i64 a.i, .int .i64 a.c, .int .i64 a.n, .int .i64 a.s, .int .i64 a.p, .int .i64 a.l, .int .i64 a.u, .int .i64 a.q], .agg #[.int .i64 u.o, .int .i64 u.q, .int .i64 u.w, .int .i64 u.n, .int .i64 u.b, .int .i64 u.s], .int .i64 last] w fun e w' => e = .returned .nilIface ∧ Below w.heap.size w w' := by
  have dl : decide (0 < last) = true := decide_eq_true (by omega)
  have W7 : IntKind.i64.wrap (a.p - last) = a.p - last := IntWalk.i64_in _ (by have := hp.1; have := hp.2; omega)
  have W8 : IntKind.i64.wrap (last - a.p) = last - a.p := IntWalk.i64_in _ (by have := hp.1; have := hp.2; omega)
  have dg : decide (x.p < last - a.p) = false := decide_eq_false (by have h := hg; unfold gap at h; split at h <;> omega)
  have HFA := Lib.hid (wfar1 u a hu hq)
  have HFB := Lib.hid (wfar2 u a hu hq)
  have HWI := Lib.hid (fun W => with_is u a hu hq hp W)
  obtain ⟨v, hv⟩ : ∃ v, usWith u a = v := ⟨_, rfl⟩
  rw [hv] at k0 k1 k2 k3 HFA HFB
  have HV := Lib.hid hv
  have dk : (a.k != 1) = false := by simp [hk]
  clear hk hu hq hp hv
  have d0 : decide (x.o < v.o) = false := decide_eq_false (by omega)
  have d1 : decide (x.q < v.q) = false := decide_eq_false (by omega)
  have d2 : decide (x.w < v.w) = false := decide_eq_false (by omega)
  have d3 : decide (x.n < far v) = false := decide_eq_false (by omega)
  clear k0 k1 k2 k3
  have hh : a.p - last < last - a.p := hh0
  clear hl0 hl1 hh0 hg
  have HOF := Lib.hid (of_is F base ls k x ((w.alloc (.cells (List.toArray [.int .i64 a.k, .int .i64 a.i, .int .i64 a.c, .int .i64 a.n, .int .i64 a.s, .int .i64 a.p, .int .i64 a.l, .int .i64 a.u, .int .i64 a.q]) 48)).alloc (.cells (List.toArray [.int .i64 u.o, .int .i64 u.q, .int .i64 u.w, .int .i64 u.n, .int .i64 u.b, .int .i64 u.s]) 51)) ((h.below (w' := w.alloc (.cells (List.toArray [.int .i64 a.k, .int .i64 a.i, .int .i64 a.c, .int .i64 a.n, .int .i64 a.s, .int .i64 a.p, .int .i64 a.l, .int .i64 a.u, .int .i64 a.q]) 48)) (by go_grown)).below (by go_grown)) hx hl)
  have hB0 : Below w.heap.size w ((w.alloc (.cells (List.toArray [.int .i64 a.k, .int .i64 a.i, .int .i64 a.c, .int .i64 a.n, .int .i64 a.s, .int .i64 a.p, .int .i64 a.l, .int .i64 a.u, .int .i64 a.q]) 48)).alloc (.cells (List.toArray [.int .i64 u.o, .int .i64 u.q, .int .i64 u.w, .int .i64 u.n, .int .i64 u.b, .int .i64 u.s]) 51)) := by go_grown
  have bA := (Bl.new w [.int .i64 a.k, .int .i64 a.i, .int .i64 a.c, .int .i64 a.n, .int .i64 a.s, .int .i64 a.p, .int .i64 a.l, .int .i64 a.u, .int .i64 a.q] 48).below (w' := ((w.alloc (.cells (List.toArray [.int .i64 a.k, .int .i64 a.i, .int .i64 a.c, .int .i64 a.n, .int .i64 a.s, .int .i64 a.p, .int .i64 a.l, .int .i64 a.u, .int .i64 a.q]) 48)).alloc (.cells (List.toArray [.int .i64 u.o, .int .i64 u.q, .int .i64 u.w, .int .i64 u.n, .int .i64 u.b, .int .i64 u.s]) 51))) (by rw [World.size_alloc]; go_grown)
  have bU := Bl.new (w.alloc (.cells (List.toArray [.int .i64 a.k, .int .i64 a.i, .int .i64 a.c, .int .i64 a.n, .int .i64 a.s, .int .i64 a.p, .int .i64 a.l, .int .i64 a.u, .int .i64 a.q]) 48)) [.int .i64 u.o, .int .i64 u.q, .int .i64 u.w, .int .i64 u.n, .int .i64 u.b, .int .i64 u.s] 51
  rw [World.size_alloc] at bU
  have HA := Lib.hid bA
  have HU := Lib.hid bU
  have HB0 := Lib.hid hB0
  clear h hx hl hB0 bA bU
  go_enter Tryd.func11, Tryd.ntmps11
  go_wp2_with fail
  refine HOF.out.mono ?_
  rintro e1 w1 ⟨rfl, hb1⟩
  have bA := HA.out.below hb1
  have bU := HU.out.below hb1
  have HB1 := Lib.hid (Below.step HB0.out hb1)
  clear hb1
  have hA1 := bA.lt
  have hU1 := bU.lt
  have ca0 : w1.cell? ⟨w.heap.size, 0, none⟩ = some (.int .i64 a.k) := bA.cell 0 _ rfl
  have ca1 : w1.cell? ⟨w.heap.size, 1, none⟩ = some (.int .i64 a.i) := bA.cell 1 _ rfl
  have ca2 : w1.cell? ⟨w.heap.size, 2, none⟩ = some (.int .i64 a.c) := bA.cell 2 _ rfl
  have ca3 : w1.cell? ⟨w.heap.size, 3, none⟩ = some (.int .i64 a.n) := bA.cell 3 _ rfl
  have ca4 : w1.cell? ⟨w.heap.size, 4, none⟩ = some (.int .i64 a.s) := bA.cell 4 _ rfl
  have ca5 : w1.cell? ⟨w.heap.size, 5, none⟩ = some (.int .i64 a.p) := bA.cell 5 _ rfl
  have ca6 : w1.cell? ⟨w.heap.size, 6, none⟩ = some (.int .i64 a.l) := bA.cell 6 _ rfl
  have ca7 : w1.cell? ⟨w.heap.size, 7, none⟩ = some (.int .i64 a.u) := bA.cell 7 _ rfl
  have ca8 : w1.cell? ⟨w.heap.size, 8, none⟩ = some (.int .i64 a.q) := bA.cell 8 _ rfl
  have cu0 : w1.cell? ⟨w.heap.size + 1, 0, none⟩ = some (.int .i64 u.o) := bU.cell 0 _ rfl
  have cu1 : w1.cell? ⟨w.heap.size + 1, 1, none⟩ = some (.int .i64 u.q) := bU.cell 1 _ rfl
  have cu2 : w1.cell? ⟨w.heap.size + 1, 2, none⟩ = some (.int .i64 u.w) := bU.cell 2 _ rfl
  have cu3 : w1.cell? ⟨w.heap.size + 1, 3, none⟩ = some (.int .i64 u.n) := bU.cell 3 _ rfl
  have cu4 : w1.cell? ⟨w.heap.size + 1, 4, none⟩ = some (.int .i64 u.b) := bU.cell 4 _ rfl
  have cu5 : w1.cell? ⟨w.heap.size + 1, 5, none⟩ = some (.int .i64 u.s) := bU.cell 5 _ rfl
  have HA1 := Lib.hid bA
  have HU1 := Lib.hid bU
  clear bA bU
  go_wp2_with fail
  refine (HWI.out _).mono ?_
  rw [HV.out]
  rintro e2 w2 ⟨rfl, hb2⟩
  have hbx : Below w1.heap.size w1 (w1.alloc (.cells (List.toArray [.int .i64 x.o, .int .i64 x.q, .int .i64 x.w, .int .i64 x.n, .int .i64 x.p]) 61)) := by go_grown
  have bA2 := (HA1.out.below hbx).below hb2
  have bU2 := (HU1.out.below hbx).below hb2
  have bX2 := (Bl.new w1 [.int .i64 x.o, .int .i64 x.q, .int .i64 x.w, .int .i64 x.n, .int .i64 x.p] 61).below hb2
  have HB2 := Lib.hid (Below.step (Below.step HB1.out hbx) hb2)
  have hX2 := bX2.lt
  clear hbx hb2 ca0 ca1 ca2 ca3 ca4 ca5 ca6 ca7 ca8 cu0 cu1 cu2 cu3 cu4 cu5
  have ca0 : w2.cell? ⟨w.heap.size, 0, none⟩ = some (.int .i64 a.k) := bA2.cell 0 _ rfl
  have ca1 : w2.cell? ⟨w.heap.size, 1, none⟩ = some (.int .i64 a.i) := bA2.cell 1 _ rfl
  have ca2 : w2.cell? ⟨w.heap.size, 2, none⟩ = some (.int .i64 a.c) := bA2.cell 2 _ rfl
  have ca3 : w2.cell? ⟨w.heap.size, 3, none⟩ = some (.int .i64 a.n) := bA2.cell 3 _ rfl
  have ca4 : w2.cell? ⟨w.heap.size, 4, none⟩ = some (.int .i64 a.s) := bA2.cell 4 _ rfl
  have ca5 : w2.cell? ⟨w.heap.size, 5, none⟩ = some (.int .i64 a.p) := bA2.cell 5 _ rfl
  have ca6 : w2.cell? ⟨w.heap.size, 6, none⟩ = some (.int .i64 a.l) := bA2.cell 6 _ rfl
  have ca7 : w2.cell? ⟨w.heap.size, 7, none⟩ = some (.int .i64 a.u) := bA2.cell 7 _ rfl
  have ca8 : w2.cell? ⟨w.heap.size, 8, none⟩ = some (.int .i64 a.q) := bA2.cell 8 _ rfl
  have cu0 : w2.cell? ⟨w.heap.size + 1, 0, none⟩ = some (.int .i64 u.o) := bU2.cell 0 _ rfl
  have cu1 : w2.cell? ⟨w.heap.size + 1, 1, none⟩ = some (.int .i64 u.q) := bU2.cell 1 _ rfl
  have cu2 : w2.cell? ⟨w.heap.size + 1, 2, none⟩ = some (.int .i64 u.w) := bU2.cell 2 _ rfl
  have cu3 : w2.cell? ⟨w.heap.size + 1, 3, none⟩ = some (.int .i64 u.n) := bU2.cell 3 _ rfl
  have cu4 : w2.cell? ⟨w.heap.size + 1, 4, none⟩ = some (.int .i64 u.b) := bU2.cell 4 _ rfl
  have cu5 : w2.cell? ⟨w.heap.size + 1, 5, none⟩ = some (.int .i64 u.s) := bU2.cell 5 _ rfl
  have cx0 : w2.cell? ⟨w1.heap.size, 0, none⟩ = some (.int .i64 x.o) := bX2.cell 0 _ rfl
  have cx1 : w2.cell? ⟨w1.heap.size, 1, none⟩ = some (.int .i64 x.q) := bX2.cell 1 _ rfl
  have cx2 : w2.cell? ⟨w1.heap.size, 2, none⟩ = some (.int .i64 x.w) := bX2.cell 2 _ rfl
  have cx3 : w2.cell? ⟨w1.heap.size, 3, none⟩ = some (.int .i64 x.n) := bX2.cell 3 _ rfl
  have cx4 : w2.cell? ⟨w1.heap.size, 4, none⟩ = some (.int .i64 x.p) := bX2.cell 4 _ rfl
  have fu0 := bU2.frz 0
  have fu1 := bU2.frz 1
  have fu2 := bU2.frz 2
  have fu3 := bU2.frz 3
  have fu4 := bU2.frz 4
  have fu5 := bU2.frz 5
  have hn1 : w.heap.size + 1 ≠ w1.heap.size := by omega
  have hn2 : w1.heap.size ≠ w.heap.size + 1 := by omega
  have hn3 : w.heap.size ≠ w.heap.size + 1 := by omega
  have HA2 := Lib.hid bA2
  have HX2 := Lib.hid bX2
  have HU2 := Lib.hid bU2
  clear bA2 bU2 bX2
  go_wp2_with fail
  have HU3 := Lib.hid (show Bl (w.heap.size + 1) [.int .i64 v.o, .int .i64 v.q, .int .i64 v.w, .int .i64 v.n, .int .i64 v.b, .int .i64 v.s] ((((((w2.setCell ⟨w.heap.size + 1, 0, none⟩ (.int .i64 v.o)).setCell ⟨w.heap.size + 1, 1, none⟩ (.int .i64 v.q)).setCell ⟨w.heap.size + 1, 2, none⟩ (.int .i64 v.w)).setCell ⟨w.heap.size + 1, 3, none⟩ (.int .i64 v.n)).setCell ⟨w.heap.size + 1, 4, none⟩ (.int .i64 v.b)).setCell ⟨w.heap.size + 1, 5, none⟩ (.int .i64 v.s)) from ((((((HU2.out.set 0 (.int .i64 v.o)).set 1 (.int .i64 v.q)).set 2 (.int .i64 v.w)).set 3 (.int .i64 v.n)).set 4 (.int .i64 v.b)).set 5 (.int .i64 v.s)))
  have HX3 := Lib.hid (show Bl w1.heap.size [.int .i64 x.o, .int .i64 x.q, .int .i64 x.w, .int .i64 x.n, .int .i64 x.p] ((((((w2.setCell ⟨w.heap.size + 1, 0, none⟩ (.int .i64 v.o)).setCell ⟨w.heap.size + 1, 1, none⟩ (.int .i64 v.q)).setCell ⟨w.heap.size + 1, 2, none⟩ (.int .i64 v.w)).setCell ⟨w.heap.size + 1, 3, none⟩ (.int .i64 v.n)).setCell ⟨w.heap.size + 1, 4, none⟩ (.int .i64 v.b)).setCell ⟨w.heap.size + 1, 5, none⟩ (.int .i64 v.s)) from ((((((HX2.out.far (p := ⟨w.heap.size + 1, 0, none⟩) (by show w.heap.size + 1 ≠ w1.heap.size; omega) (.int .i64 v.o)).far (p := ⟨w.heap.size + 1, 1, none⟩) (by show w.heap.size + 1 ≠ w1.heap.size; omega) (.int .i64 v.q)).far (p := ⟨w.heap.size + 1, 2, none⟩) (by show w.heap.size + 1 ≠ w1.heap.size; omega) (.int .i64 v.w)).far (p := ⟨w.heap.size + 1, 3, none⟩) (by show w.heap.size + 1 ≠ w1.heap.size; omega) (.int .i64 v.n)).far (p := ⟨w.heap.size + 1, 4, none⟩) (by show w.heap.size + 1 ≠ w1.heap.size; omega) (.int .i64 v.b)).far (p := ⟨w.heap.size + 1, 5, none⟩) (by show w.heap.size + 1 ≠ w1.heap.size; omega) (.int .i64 v.s)))
  have HA3 := Lib.hid (show Bl w.heap.size [.int .i64 a.k, .int .i64 a.i, .int .i64 a.c, .int .i64 a.n, .int .i64 a.s, .int .i64 a.p, .int .i64 a.l, .int .i64 a.u, .int .i64 a.q] ((((((w2.setCell ⟨w.heap.size + 1, 0, none⟩ (.int .i64 v.o)).setCell ⟨w.heap.size + 1, 1, none⟩ (.int .i64 v.q)).setCell ⟨w.heap.size + 1, 2, none⟩ (.int .i64 v.w)).setCell ⟨w.heap.size + 1, 3, none⟩ (.int .i64 v.n)).setCell ⟨w.heap.size + 1, 4, none⟩ (.int .i64 v.b)).setCell ⟨w.heap.size + 1, 5, none⟩ (.int .i64 v.s)) from ((((((HA2.out.far (p := ⟨w.heap.size + 1, 0, none⟩) (by show w.heap.size + 1 ≠ w.heap.size; omega) (.int .i64 v.o)).far (p := ⟨w.heap.size + 1, 1, none⟩) (by show w.heap.size + 1 ≠ w.heap.size; omega) (.int .i64 v.q)).far (p := ⟨w.heap.size + 1, 2, none⟩) (by show w.heap.size + 1 ≠ w.heap.size; omega) (.int .i64 v.w)).far (p := ⟨w.heap.size + 1, 3, none⟩) (by show w.heap.size + 1 ≠ w.heap.size; omega) (.int .i64 v.n)).far (p := ⟨w.heap.size + 1, 4, none⟩) (by show w.heap.size + 1 ≠ w.heap.size; omega) (.int .i64 v.b)).far (p := ⟨w.heap.size + 1, 5, none⟩) (by show w.heap.size + 1 ≠ w.heap.size; omega) (.int .i64 v.s)))
  have HB3 := Lib.hid (show Below w.heap.size w ((((((w2.setCell ⟨w.heap.size + 1, 0, none⟩ (.int .i64 v.o)).setCell ⟨w.heap.size + 1, 1, none⟩ (.int .i64 v.q)).setCell ⟨w.heap.size + 1, 2, none⟩ (.int .i64 v.w)).setCell ⟨w.heap.size + 1, 3, none⟩ (.int .i64 v.n)).setCell ⟨w.heap.size + 1, 4, none⟩ (.int .i64 v.b)).setCell ⟨w.heap.size + 1, 5, none⟩ (.int .i64 v.s)) from ((((((HB2.out.setCell (p := ⟨w.heap.size + 1, 0, none⟩) (Nat.le_succ _) (.int .i64 v.o)).setCell (p := ⟨w.heap.size + 1, 1, none⟩) (Nat.le_succ _) (.int .i64 v.q)).setCell (p := ⟨w.heap.size + 1, 2, none⟩) (Nat.le_succ _) (.int .i64 v.w)).setCell (p := ⟨w.heap.size + 1, 3, none⟩) (Nat.le_succ _) (.int .i64 v.n)).setCell (p := ⟨w.heap.size + 1, 4, none⟩) (Nat.le_succ _) (.int .i64 v.b)).setCell (p := ⟨w.heap.size + 1, 5, none⟩) (Nat.le_succ _) (.int .i64 v.s)))
  clear ca0  ca1  ca2  ca3  ca4  ca5  ca6  ca7  ca8  cu0 fu0 cu1 fu1 cu2 fu2 cu3 fu3 cu4 fu4 cu5 fu5 cx0 cx1 cx2 cx3 cx4 HU2 HX2 HA2 HB2
  generalize ((((((w2.setCell ⟨w.heap.size + 1, 0, none⟩ (.int .i64 v.o)).setCell ⟨w.heap.size + 1, 1, none⟩ (.int .i64 v.q)).setCell ⟨w.heap.size + 1, 2, none⟩ (.int .i64 v.w)).setCell ⟨w.heap.size + 1, 3, none⟩ (.int .i64 v.n)).setCell ⟨w.heap.size + 1, 4, none⟩ (.int .i64 v.b)).setCell ⟨w.heap.size + 1, 5, none⟩ (.int .i64 v.s)) = W3 at *
  have bU4 := show Bl (w.heap.size + 1) [.int .i64 v.o, .int .i64 v.q, .int .i64 v.w, .int .i64 v.n, .int .i64 v.b, .int .i64 v.s] W3.drew from HU3.out
  have bX4 := show Bl w1.heap.size [.int .i64 x.o, .int .i64 x.q, .int .i64 x.w, .int .i64 x.n, .int .i64 x.p] W3.drew from HX3.out
  have bA4 := show Bl w.heap.size [.int .i64 a.k, .int .i64 a.i, .int .i64 a.c, .int .i64 a.n, .int .i64 a.s, .int .i64 a.p, .int .i64 a.l, .int .i64 a.u, .int .i64 a.q] W3.drew from HA3.out
  have hC := Below.drew HB3.out
  have hS : W3.drew.cell? ⟨w.heap.size + 1, 0, none⟩ = some (.int .i64 v.o) ∧ W3.drew.cell? ⟨w.heap.size + 1, 1, none⟩ = some (.int .i64 v.q) ∧ W3.drew.cell? ⟨w.heap.size + 1, 2, none⟩ = some (.int .i64 v.w) ∧ W3.drew.cell? ⟨w.heap.size + 1, 3, none⟩ = some (.int .i64 v.n) ∧ W3.drew.cell? ⟨w.heap.size + 1, 4, none⟩ = some (.int .i64 v.b) ∧ W3.drew.cell? ⟨w.heap.size + 1, 5, none⟩ = some (.int .i64 v.s) ∧ W3.drew.cell? ⟨w1.heap.size, 3, none⟩ = some (.int .i64 x.n) := ⟨bU4.cell 0 _ rfl, bU4.cell 1 _ rfl, bU4.cell 2 _ rfl, bU4.cell 3 _ rfl, bU4.cell 4 _ rfl, bU4.cell 5 _ rfl, bX4.cell 3 _ rfl⟩
  clear HU3 HX3 HA3 HB3
  go_region_held3 (fun w' => w'.cell? ⟨w.heap.size + 1, 0, none⟩ = some (.int .i64 v.o) ∧ w'.cell? ⟨w.heap.size + 1, 1, none⟩ = some (.int .i64 v.q) ∧ w'.cell? ⟨w.heap.size + 1, 2, none⟩ = some (.int .i64 v.w) ∧ w'.cell? ⟨w.heap.size + 1, 3, none⟩ = some (.int .i64 v.n) ∧ w'.cell? ⟨w.heap.size + 1, 4, none⟩ = some (.int .i64 v.b) ∧ w'.cell? ⟨w.heap.size + 1, 5, none⟩ = some (.int .i64 v.s) ∧ w'.cell? ⟨w1.heap.size, 3, none⟩ = some (.int .i64 x.n)) (first | with_reducible exact hS | fail) (first | (go_at_call 21; (with_reducible refine (far_is v HFA.out HFB.out _).mono ?_); rintro e wy ⟨rfl, hby⟩; have bU4 := bU4.below hby; have bX4 := bX4.below hby; have bA4 := bA4.below hby; have hC := Below.step hC hby; have hS : wy.cell? ⟨w.heap.size + 1, 0, none⟩ = some (.int .i64 v.o) ∧ wy.cell? ⟨w.heap.size + 1, 1, none⟩ = some (.int .i64 v.q) ∧ wy.cell? ⟨w.heap.size + 1, 2, none⟩ = some (.int .i64 v.w) ∧ wy.cell? ⟨w.heap.size + 1, 3, none⟩ = some (.int .i64 v.n) ∧ wy.cell? ⟨w.heap.size + 1, 4, none⟩ = some (.int .i64 v.b) ∧ wy.cell? ⟨w.heap.size + 1, 5, none⟩ = some (.int .i64 v.s) ∧ wy.cell? ⟨w1.heap.size, 3, none⟩ = some (.int .i64 x.n) := ⟨bU4.cell 0 _ rfl, bU4.cell 1 _ rfl, bU4.cell 2 _ rfl, bU4.cell 3 _ rfl, bU4.cell 4 _ rfl, bU4.cell 5 _ rfl, bX4.cell 3 _ rfl⟩; clear hby) | fail)
  have ap := bA4.cell 5 (Value.int .i64 a.p) rfl
  have xp := bX4.cell 4 (Value.int .i64 x.p) rfl
  have la := bA4.lt
  have lx := bX4.lt
  go_wp2_with fail
  go_ret
  exact ⟨rfl, hC⟩
set_option maxRecDepth 100000 in
set_option maxHeartbeats 8000000 in
theorem may_gap2 (F base : Nat) (ls : List Lim) (k : Nat) (x : Lim) (a : As) (u : Us) (last : Int) (w : World) (h : FAt w F base ls) (hx : ls[k]? = some x) (hl : ls.length ≤ 100) (hk : a.k = 1) (hu : Usm u) (hq : sm a.q) (hp : sm a.p) (k0 : (usWith u a).o ≤ x.o) (k1 : (usWith u a).q ≤ x.q) (k2 : (usWith u a).w ≤ x.w) (k3 : far (usWith u a) ≤ x.n) (hl0 : 0 < last) (hl1 : last ≤ 1073741824) (hh0 : ¬ a.p - last < last - a.p) (hg : gap a.p last ≤ x.p) : Calls Tryd.prog 11 #[.pointer (some ⟨F, 0, none⟩), .int .i64 (k : Int), .agg #[.int .i64 a.k, .int .i64 a.i, .int .i64 a.c, .int .i64 a.n, .int .i64 a.s, .int .i64 a.p, .int .i64 a.l, .int .i64 a.u, .int .i64 a.q], .agg #[.int .i64 u.o, .int .i64 u.q, .int .i64 u.w, .int .i64 u.n, .int .i64 u.b, .int .i64 u.s], .int .i64 last] w fun e w' => e = .returned .nilIface ∧ Below w.heap.size w w' := by
  have dl : decide (0 < last) = true := decide_eq_true (by omega)
  have W7 : IntKind.i64.wrap (a.p - last) = a.p - last := IntWalk.i64_in _ (by have := hp.1; have := hp.2; omega)
  have W8 : IntKind.i64.wrap (last - a.p) = last - a.p := IntWalk.i64_in _ (by have := hp.1; have := hp.2; omega)
  have dg : decide (x.p < a.p - last) = false := decide_eq_false (by have h := hg; unfold gap at h; split at h <;> omega)
  have HFA := Lib.hid (wfar1 u a hu hq)
  have HFB := Lib.hid (wfar2 u a hu hq)
  have HWI := Lib.hid (fun W => with_is u a hu hq hp W)
  obtain ⟨v, hv⟩ : ∃ v, usWith u a = v := ⟨_, rfl⟩
  rw [hv] at k0 k1 k2 k3 HFA HFB
  have HV := Lib.hid hv
  have dk : (a.k != 1) = false := by simp [hk]
  clear hk hu hq hp hv
  have d0 : decide (x.o < v.o) = false := decide_eq_false (by omega)
  have d1 : decide (x.q < v.q) = false := decide_eq_false (by omega)
  have d2 : decide (x.w < v.w) = false := decide_eq_false (by omega)
  have d3 : decide (x.n < far v) = false := decide_eq_false (by omega)
  clear k0 k1 k2 k3
  have hh : ¬ a.p - last < last - a.p := hh0
  have hh2 : last - a.p ≤ a.p - last := by omega
  clear hl0 hl1 hh0 hg
  have HOF := Lib.hid (of_is F base ls k x ((w.alloc (.cells (List.toArray [.int .i64 a.k, .int .i64 a.i, .int .i64 a.c, .int .i64 a.n, .int .i64 a.s, .int .i64 a.p, .int .i64 a.l, .int .i64 a.u, .int .i64 a.q]) 48)).alloc (.cells (List.toArray [.int .i64 u.o, .int .i64 u.q, .int .i64 u.w, .int .i64 u.n, .int .i64 u.b, .int .i64 u.s]) 51)) ((h.below (w' := w.alloc (.cells (List.toArray [.int .i64 a.k, .int .i64 a.i, .int .i64 a.c, .int .i64 a.n, .int .i64 a.s, .int .i64 a.p, .int .i64 a.l, .int .i64 a.u, .int .i64 a.q]) 48)) (by go_grown)).below (by go_grown)) hx hl)
  have hB0 : Below w.heap.size w ((w.alloc (.cells (List.toArray [.int .i64 a.k, .int .i64 a.i, .int .i64 a.c, .int .i64 a.n, .int .i64 a.s, .int .i64 a.p, .int .i64 a.l, .int .i64 a.u, .int .i64 a.q]) 48)).alloc (.cells (List.toArray [.int .i64 u.o, .int .i64 u.q, .int .i64 u.w, .int .i64 u.n, .int .i64 u.b, .int .i64 u.s]) 51)) := by go_grown
  have bA := (Bl.new w [.int .i64 a.k, .int .i64 a.i, .int .i64 a.c, .int .i64 a.n, .int .i64 a.s, .int .i64 a.p, .int .i64 a.l, .int .i64 a.u, .int .i64 a.q] 48).below (w' := ((w.alloc (.cells (List.toArray [.int .i64 a.k, .int .i64 a.i, .int .i64 a.c, .int .i64 a.n, .int .i64 a.s, .int .i64 a.p, .int .i64 a.l, .int .i64 a.u, .int .i64 a.q]) 48)).alloc (.cells (List.toArray [.int .i64 u.o, .int .i64 u.q, .int .i64 u.w, .int .i64 u.n, .int .i64 u.b, .int .i64 u.s]) 51))) (by rw [World.size_alloc]; go_grown)
  have bU := Bl.new (w.alloc (.cells (List.toArray [.int .i64 a.k, .int .i64 a.i, .int .i64 a.c, .int .i64 a.n, .int .i64 a.s, .int .i64 a.p, .int .i64 a.l, .int .i64 a.u, .int .i64 a.q]) 48)) [.int .i64 u.o, .int .i64 u.q, .int .i64 u.w, .int .i64 u.n, .int .i64 u.b, .int .i64 u.s] 51
  rw [World.size_alloc] at bU
  have HA := Lib.hid bA
  have HU := Lib.hid bU
  have HB0 := Lib.hid hB0
  clear h hx hl hB0 bA bU
  go_enter Tryd.func11, Tryd.ntmps11
  go_wp2_with fail
  refine HOF.out.mono ?_
  rintro e1 w1 ⟨rfl, hb1⟩
  have bA := HA.out.below hb1
  have bU := HU.out.below hb1
  have HB1 := Lib.hid (Below.step HB0.out hb1)
  clear hb1
  have hA1 := bA.lt
  have hU1 := bU.lt
  have ca0 : w1.cell? ⟨w.heap.size, 0, none⟩ = some (.int .i64 a.k) := bA.cell 0 _ rfl
  have ca1 : w1.cell? ⟨w.heap.size, 1, none⟩ = some (.int .i64 a.i) := bA.cell 1 _ rfl
  have ca2 : w1.cell? ⟨w.heap.size, 2, none⟩ = some (.int .i64 a.c) := bA.cell 2 _ rfl
  have ca3 : w1.cell? ⟨w.heap.size, 3, none⟩ = some (.int .i64 a.n) := bA.cell 3 _ rfl
  have ca4 : w1.cell? ⟨w.heap.size, 4, none⟩ = some (.int .i64 a.s) := bA.cell 4 _ rfl
  have ca5 : w1.cell? ⟨w.heap.size, 5, none⟩ = some (.int .i64 a.p) := bA.cell 5 _ rfl
  have ca6 : w1.cell? ⟨w.heap.size, 6, none⟩ = some (.int .i64 a.l) := bA.cell 6 _ rfl
  have ca7 : w1.cell? ⟨w.heap.size, 7, none⟩ = some (.int .i64 a.u) := bA.cell 7 _ rfl
  have ca8 : w1.cell? ⟨w.heap.size, 8, none⟩ = some (.int .i64 a.q) := bA.cell 8 _ rfl
  have cu0 : w1.cell? ⟨w.heap.size + 1, 0, none⟩ = some (.int .i64 u.o) := bU.cell 0 _ rfl
  have cu1 : w1.cell? ⟨w.heap.size + 1, 1, none⟩ = some (.int .i64 u.q) := bU.cell 1 _ rfl
  have cu2 : w1.cell? ⟨w.heap.size + 1, 2, none⟩ = some (.int .i64 u.w) := bU.cell 2 _ rfl
  have cu3 : w1.cell? ⟨w.heap.size + 1, 3, none⟩ = some (.int .i64 u.n) := bU.cell 3 _ rfl
  have cu4 : w1.cell? ⟨w.heap.size + 1, 4, none⟩ = some (.int .i64 u.b) := bU.cell 4 _ rfl
  have cu5 : w1.cell? ⟨w.heap.size + 1, 5, none⟩ = some (.int .i64 u.s) := bU.cell 5 _ rfl
  have HA1 := Lib.hid bA
  have HU1 := Lib.hid bU
  clear bA bU
  go_wp2_with fail
  refine (HWI.out _).mono ?_
  rw [HV.out]
  rintro e2 w2 ⟨rfl, hb2⟩
  have hbx : Below w1.heap.size w1 (w1.alloc (.cells (List.toArray [.int .i64 x.o, .int .i64 x.q, .int .i64 x.w, .int .i64 x.n, .int .i64 x.p]) 61)) := by go_grown
  have bA2 := (HA1.out.below hbx).below hb2
  have bU2 := (HU1.out.below hbx).below hb2
  have bX2 := (Bl.new w1 [.int .i64 x.o, .int .i64 x.q, .int .i64 x.w, .int .i64 x.n, .int .i64 x.p] 61).below hb2
  have HB2 := Lib.hid (Below.step (Below.step HB1.out hbx) hb2)
  have hX2 := bX2.lt
  clear hbx hb2 ca0 ca1 ca2 ca3 ca4 ca5 ca6 ca7 ca8 cu0 cu1 cu2 cu3 cu4 cu5
  have ca0 : w2.cell? ⟨w.heap.size, 0, none⟩ = some (.int .i64 a.k) := bA2.cell 0 _ rfl
  have ca1 : w2.cell? ⟨w.heap.size, 1, none⟩ = some (.int .i64 a.i) := bA2.cell 1 _ rfl
  have ca2 : w2.cell? ⟨w.heap.size, 2, none⟩ = some (.int .i64 a.c) := bA2.cell 2 _ rfl
  have ca3 : w2.cell? ⟨w.heap.size, 3, none⟩ = some (.int .i64 a.n) := bA2.cell 3 _ rfl
  have ca4 : w2.cell? ⟨w.heap.size, 4, none⟩ = some (.int .i64 a.s) := bA2.cell 4 _ rfl
  have ca5 : w2.cell? ⟨w.heap.size, 5, none⟩ = some (.int .i64 a.p) := bA2.cell 5 _ rfl
  have ca6 : w2.cell? ⟨w.heap.size, 6, none⟩ = some (.int .i64 a.l) := bA2.cell 6 _ rfl
  have ca7 : w2.cell? ⟨w.heap.size, 7, none⟩ = some (.int .i64 a.u) := bA2.cell 7 _ rfl
  have ca8 : w2.cell? ⟨w.heap.size, 8, none⟩ = some (.int .i64 a.q) := bA2.cell 8 _ rfl
  have cu0 : w2.cell? ⟨w.heap.size + 1, 0, none⟩ = some (.int .i64 u.o) := bU2.cell 0 _ rfl
  have cu1 : w2.cell? ⟨w.heap.size + 1, 1, none⟩ = some (.int .i64 u.q) := bU2.cell 1 _ rfl
  have cu2 : w2.cell? ⟨w.heap.size + 1, 2, none⟩ = some (.int .i64 u.w) := bU2.cell 2 _ rfl
  have cu3 : w2.cell? ⟨w.heap.size + 1, 3, none⟩ = some (.int .i64 u.n) := bU2.cell 3 _ rfl
  have cu4 : w2.cell? ⟨w.heap.size + 1, 4, none⟩ = some (.int .i64 u.b) := bU2.cell 4 _ rfl
  have cu5 : w2.cell? ⟨w.heap.size + 1, 5, none⟩ = some (.int .i64 u.s) := bU2.cell 5 _ rfl
  have cx0 : w2.cell? ⟨w1.heap.size, 0, none⟩ = some (.int .i64 x.o) := bX2.cell 0 _ rfl
  have cx1 : w2.cell? ⟨w1.heap.size, 1, none⟩ = some (.int .i64 x.q) := bX2.cell 1 _ rfl
  have cx2 : w2.cell? ⟨w1.heap.size, 2, none⟩ = some (.int .i64 x.w) := bX2.cell 2 _ rfl
  have cx3 : w2.cell? ⟨w1.heap.size, 3, none⟩ = some (.int .i64 x.n) := bX2.cell 3 _ rfl
  have cx4 : w2.cell? ⟨w1.heap.size, 4, none⟩ = some (.int .i64 x.p) := bX2.cell 4 _ rfl
  have fu0 := bU2.frz 0
  have fu1 := bU2.frz 1
  have fu2 := bU2.frz 2
  have fu3 := bU2.frz 3
  have fu4 := bU2.frz 4
  have fu5 := bU2.frz 5
  have hn1 : w.heap.size + 1 ≠ w1.heap.size := by omega
  have hn2 : w1.heap.size ≠ w.heap.size + 1 := by omega
  have hn3 : w.heap.size ≠ w.heap.size + 1 := by omega
  have HA2 := Lib.hid bA2
  have HX2 := Lib.hid bX2
  have HU2 := Lib.hid bU2
  clear bA2 bU2 bX2
  go_wp2_with fail
  have HU3 := Lib.hid (show Bl (w.heap.size + 1) [.int .i64 v.o, .int .i64 v.q, .int .i64 v.w, .int .i64 v.n, .int .i64 v.b, .int .i64 v.s] ((((((w2.setCell ⟨w.heap.size + 1, 0, none⟩ (.int .i64 v.o)).setCell ⟨w.heap.size + 1, 1, none⟩ (.int .i64 v.q)).setCell ⟨w.heap.size + 1, 2, none⟩ (.int .i64 v.w)).setCell ⟨w.heap.size + 1, 3, none⟩ (.int .i64 v.n)).setCell ⟨w.heap.size + 1, 4, none⟩ (.int .i64 v.b)).setCell ⟨w.heap.size + 1, 5, none⟩ (.int .i64 v.s)) from ((((((HU2.out.set 0 (.int .i64 v.o)).set 1 (.int .i64 v.q)).set 2 (.int .i64 v.w)).set 3 (.int .i64 v.n)).set 4 (.int .i64 v.b)).set 5 (.int .i64 v.s)))
  have HX3 := Lib.hid (show Bl w1.heap.size [.int .i64 x.o, .int .i64 x.q, .int .i64 x.w, .int .i64 x.n, .int .i64 x.p] ((((((w2.setCell ⟨w.heap.size + 1, 0, none⟩ (.int .i64 v.o)).setCell ⟨w.heap.size + 1, 1, none⟩ (.int .i64 v.q)).setCell ⟨w.heap.size + 1, 2, none⟩ (.int .i64 v.w)).setCell ⟨w.heap.size + 1, 3, none⟩ (.int .i64 v.n)).setCell ⟨w.heap.size + 1, 4, none⟩ (.int .i64 v.b)).setCell ⟨w.heap.size + 1, 5, none⟩ (.int .i64 v.s)) from ((((((HX2.out.far (p := ⟨w.heap.size + 1, 0, none⟩) (by show w.heap.size + 1 ≠ w1.heap.size; omega) (.int .i64 v.o)).far (p := ⟨w.heap.size + 1, 1, none⟩) (by show w.heap.size + 1 ≠ w1.heap.size; omega) (.int .i64 v.q)).far (p := ⟨w.heap.size + 1, 2, none⟩) (by show w.heap.size + 1 ≠ w1.heap.size; omega) (.int .i64 v.w)).far (p := ⟨w.heap.size + 1, 3, none⟩) (by show w.heap.size + 1 ≠ w1.heap.size; omega) (.int .i64 v.n)).far (p := ⟨w.heap.size + 1, 4, none⟩) (by show w.heap.size + 1 ≠ w1.heap.size; omega) (.int .i64 v.b)).far (p := ⟨w.heap.size + 1, 5, none⟩) (by show w.heap.size + 1 ≠ w1.heap.size; omega) (.int .i64 v.s)))
  have HA3 := Lib.hid (show Bl w.heap.size [.int .i64 a.k, .int .i64 a.i, .int .i64 a.c, .int .i64 a.n, .int .i64 a.s, .int .i64 a.p, .int .i64 a.l, .int .i64 a.u, .int .i64 a.q] ((((((w2.setCell ⟨w.heap.size + 1, 0, none⟩ (.int .i64 v.o)).setCell ⟨w.heap.size + 1, 1, none⟩ (.int .i64 v.q)).setCell ⟨w.heap.size + 1, 2, none⟩ (.int .i64 v.w)).setCell ⟨w.heap.size + 1, 3, none⟩ (.int .i64 v.n)).setCell ⟨w.heap.size + 1, 4, none⟩ (.int .i64 v.b)).setCell ⟨w.heap.size + 1, 5, none⟩ (.int .i64 v.s)) from ((((((HA2.out.far (p := ⟨w.heap.size + 1, 0, none⟩) (by show w.heap.size + 1 ≠ w.heap.size; omega) (.int .i64 v.o)).far (p := ⟨w.heap.size + 1, 1, none⟩) (by show w.heap.size + 1 ≠ w.heap.size; omega) (.int .i64 v.q)).far (p := ⟨w.heap.size + 1, 2, none⟩) (by show w.heap.size + 1 ≠ w.heap.size; omega) (.int .i64 v.w)).far (p := ⟨w.heap.size + 1, 3, none⟩) (by show w.heap.size + 1 ≠ w.heap.size; omega) (.int .i64 v.n)).far (p := ⟨w.heap.size + 1, 4, none⟩) (by show w.heap.size + 1 ≠ w.heap.size; omega) (.int .i64 v.b)).far (p := ⟨w.heap.size + 1, 5, none⟩) (by show w.heap.size + 1 ≠ w.heap.size; omega) (.int .i64 v.s)))
  have HB3 := Lib.hid (show Below w.heap.size w ((((((w2.setCell ⟨w.heap.size + 1, 0, none⟩ (.int .i64 v.o)).setCell ⟨w.heap.size + 1, 1, none⟩ (.int .i64 v.q)).setCell ⟨w.heap.size + 1, 2, none⟩ (.int .i64 v.w)).setCell ⟨w.heap.size + 1, 3, none⟩ (.int .i64 v.n)).setCell ⟨w.heap.size + 1, 4, none⟩ (.int .i64 v.b)).setCell ⟨w.heap.size + 1, 5, none⟩ (.int .i64 v.s)) from ((((((HB2.out.setCell (p := ⟨w.heap.size + 1, 0, none⟩) (Nat.le_succ _) (.int .i64 v.o)).setCell (p := ⟨w.heap.size + 1, 1, none⟩) (Nat.le_succ _) (.int .i64 v.q)).setCell (p := ⟨w.heap.size + 1, 2, none⟩) (Nat.le_succ _) (.int .i64 v.w)).setCell (p := ⟨w.heap.size + 1, 3, none⟩) (Nat.le_succ _) (.int .i64 v.n)).setCell (p := ⟨w.heap.size + 1, 4, none⟩) (Nat.le_succ _) (.int .i64 v.b)).setCell (p := ⟨w.heap.size + 1, 5, none⟩) (Nat.le_succ _) (.int .i64 v.s)))
  clear ca0  ca1  ca2  ca3  ca4  ca5  ca6  ca7  ca8  cu0 fu0 cu1 fu1 cu2 fu2 cu3 fu3 cu4 fu4 cu5 fu5 cx0 cx1 cx2 cx3 cx4 HU2 HX2 HA2 HB2
  generalize ((((((w2.setCell ⟨w.heap.size + 1, 0, none⟩ (.int .i64 v.o)).setCell ⟨w.heap.size + 1, 1, none⟩ (.int .i64 v.q)).setCell ⟨w.heap.size + 1, 2, none⟩ (.int .i64 v.w)).setCell ⟨w.heap.size + 1, 3, none⟩ (.int .i64 v.n)).setCell ⟨w.heap.size + 1, 4, none⟩ (.int .i64 v.b)).setCell ⟨w.heap.size + 1, 5, none⟩ (.int .i64 v.s)) = W3 at *
  have bU4 := show Bl (w.heap.size + 1) [.int .i64 v.o, .int .i64 v.q, .int .i64 v.w, .int .i64 v.n, .int .i64 v.b, .int .i64 v.s] W3.drew from HU3.out
  have bX4 := show Bl w1.heap.size [.int .i64 x.o, .int .i64 x.q, .int .i64 x.w, .int .i64 x.n, .int .i64 x.p] W3.drew from HX3.out
  have bA4 := show Bl w.heap.size [.int .i64 a.k, .int .i64 a.i, .int .i64 a.c, .int .i64 a.n, .int .i64 a.s, .int .i64 a.p, .int .i64 a.l, .int .i64 a.u, .int .i64 a.q] W3.drew from HA3.out
  have hC := Below.drew HB3.out
  have hS : W3.drew.cell? ⟨w.heap.size + 1, 0, none⟩ = some (.int .i64 v.o) ∧ W3.drew.cell? ⟨w.heap.size + 1, 1, none⟩ = some (.int .i64 v.q) ∧ W3.drew.cell? ⟨w.heap.size + 1, 2, none⟩ = some (.int .i64 v.w) ∧ W3.drew.cell? ⟨w.heap.size + 1, 3, none⟩ = some (.int .i64 v.n) ∧ W3.drew.cell? ⟨w.heap.size + 1, 4, none⟩ = some (.int .i64 v.b) ∧ W3.drew.cell? ⟨w.heap.size + 1, 5, none⟩ = some (.int .i64 v.s) ∧ W3.drew.cell? ⟨w1.heap.size, 3, none⟩ = some (.int .i64 x.n) := ⟨bU4.cell 0 _ rfl, bU4.cell 1 _ rfl, bU4.cell 2 _ rfl, bU4.cell 3 _ rfl, bU4.cell 4 _ rfl, bU4.cell 5 _ rfl, bX4.cell 3 _ rfl⟩
  clear HU3 HX3 HA3 HB3
  go_region_held3 (fun w' => w'.cell? ⟨w.heap.size + 1, 0, none⟩ = some (.int .i64 v.o) ∧ w'.cell? ⟨w.heap.size + 1, 1, none⟩ = some (.int .i64 v.q) ∧ w'.cell? ⟨w.heap.size + 1, 2, none⟩ = some (.int .i64 v.w) ∧ w'.cell? ⟨w.heap.size + 1, 3, none⟩ = some (.int .i64 v.n) ∧ w'.cell? ⟨w.heap.size + 1, 4, none⟩ = some (.int .i64 v.b) ∧ w'.cell? ⟨w.heap.size + 1, 5, none⟩ = some (.int .i64 v.s) ∧ w'.cell? ⟨w1.heap.size, 3, none⟩ = some (.int .i64 x.n)) (first | with_reducible exact hS | fail) (first | (go_at_call 21; (with_reducible refine (far_is v HFA.out HFB.out _).mono ?_); rintro e wy ⟨rfl, hby⟩; have bU4 := bU4.below hby; have bX4 := bX4.below hby; have bA4 := bA4.below hby; have hC := Below.step hC hby; have hS : wy.cell? ⟨w.heap.size + 1, 0, none⟩ = some (.int .i64 v.o) ∧ wy.cell? ⟨w.heap.size + 1, 1, none⟩ = some (.int .i64 v.q) ∧ wy.cell? ⟨w.heap.size + 1, 2, none⟩ = some (.int .i64 v.w) ∧ wy.cell? ⟨w.heap.size + 1, 3, none⟩ = some (.int .i64 v.n) ∧ wy.cell? ⟨w.heap.size + 1, 4, none⟩ = some (.int .i64 v.b) ∧ wy.cell? ⟨w.heap.size + 1, 5, none⟩ = some (.int .i64 v.s) ∧ wy.cell? ⟨w1.heap.size, 3, none⟩ = some (.int .i64 x.n) := ⟨bU4.cell 0 _ rfl, bU4.cell 1 _ rfl, bU4.cell 2 _ rfl, bU4.cell 3 _ rfl, bU4.cell 4 _ rfl, bU4.cell 5 _ rfl, bX4.cell 3 _ rfl⟩; clear hby) | fail)
  have ap := bA4.cell 5 (Value.int .i64 a.p) rfl
  have xp := bX4.cell 4 (Value.int .i64 x.p) rfl
  have la := bA4.lt
  have lx := bX4.lt
  go_wp2_with fail
  go_ret
  exact ⟨rfl, hC⟩
end Go.Proofs.YtmddgaokdlhegaaDoor

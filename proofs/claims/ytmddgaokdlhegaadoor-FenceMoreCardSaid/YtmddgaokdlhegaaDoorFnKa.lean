/-
  What may be asked, what is within limits.
-/
import Derived.Test.YtmddgaokdlhegaaDoorRows
import Derived.Test.YtmddgaokdlhegaaDoorKit
import Derived.Test.YtmddgaokdlhegaaDoorApp
import Derived.Test.YtmddgaokdlhegaaDoorQuiet
import Derived.Test.YtmddgaokdlhegaaDoorFnM
import Derived.Test.YtmddgaokdlhegaaDoorFnO
import Derived.Test.YtmddgaokdlhegaaDoorFnB
import Derived.Test.YtmddgaokdlhegaaDoorFnR
import Derived.Test.YtmddgaokdlhegaaDoorFnL
import Derived.Test.YtmddgaokdlhegaaDoorFnN
import Derived.Test.YtmddgaokdlhegaaDoorAsF
import Derived.Test.YtmddgaokdlhegaaDoorAsC
import Derived.Test.YtmddgaokdlhegaaDoorAsD
import Derived.Test.YtmddgaokdlhegaaDoorAsE
import Derived.WalkKit
import Derived.ProofKit
import Derived.OpenShut
import Derived.ShutString
import Derived.Below
import Derived.Outline
import Derived.WalkLawsBesides
import Derived.WalkSpells
import Derived.Handy
import Derived.Deep.QuietTactic
import Derived.BigQuiet
import Derived.RegionTactic
import Derived.ChangeAlike
import Derived.Lib.Hide
import Derived.Laws.Rows
import Derived.Laws.Tables
import Derived.Laws.CopyOwn
import Derived.Laws.MakeOwn
import Derived.Laws.Entries
import Derived.Laws.OwnMore
import Derived.Deep.WholeRow
import Derived.Deep.LoopGhost
import Derived.Deep.AppendLies
import Derived.Deep.Draws
import Derived.Maps.AppendAt
import Derived.OwnWalk
import Derived.Deep.RegionHeld3
import Derived.Deep.Cut
import Derived.Deep.CutRange
import Derived.Deep.DeepCutAuto
import Derived.Deep.CutBlock
import Derived.Lib.SliceRun
import Derived.IntWalk
namespace Go.Proofs.YtmddgaokdlhegaaDoor
open Go.ChangeShapes Go.WideShapes Go.ChangeAt Go.RowKit
theorem wfar1 (u : Us) (a : As) (hu : Usm u) (hq : sm a.q) : -4294967296 ≤ (usWith u a).n + (usWith u a).b ∧ (usWith u a).n + (usWith u a).b ≤ 4294967296 := by
  have h1 := hu.n; have h2 := hu.b
  unfold sm at h1 h2 hq
  show -4294967296 ≤ u.n + (if a.s = 0 then u.b + a.q else u.b) ∧ u.n + (if a.s = 0 then u.b + a.q else u.b) ≤ 4294967296
  split <;> omega
theorem wfar2 (u : Us) (a : As) (hu : Usm u) (hq : sm a.q) : -4294967296 ≤ (usWith u a).s - (usWith u a).n ∧ (usWith u a).s - (usWith u a).n ≤ 4294967296 := by
  have h1 := hu.n; have h2 := hu.s
  unfold sm at h1 h2 hq
  show -4294967296 ≤ (if a.s = 1 then u.s + a.q else u.s) - u.n ∧ (if a.s = 1 then u.s + a.q else u.s) - u.n ≤ 4294967296
  split <;> omega
set_option maxRecDepth 100000 in
set_option maxHeartbeats 4000000 in
theorem may_kind (F base : Nat) (ls : List Lim) (k : Nat) (x : Lim) (a : As) (u : Us) (last : Int) (w : World) (h : FAt w F base ls) (hx : ls[k]? = some x) (hl : ls.length ≤ 100) (hk : a.k ≠ 1) : Calls Tryd.prog 11 #[.pointer (some ⟨F, 0, none⟩), .int .i64 (k : Int), .agg #[.int .i64 a.k, .int .i64 a.i, .int .i64 a.c, .int .i64 a.n, .int .i64 a.s, .int .i64 a.p, .int .i64 a.l, .int .i64 a.u, .int .i64 a.q], .agg #[.int .i64 u.o, .int .i64 u.q, .int .i64 u.w, .int .i64 u.n, .int .i64 u.b, .int .i64 u.s], .int .i64 last] w fun e w' => e = .returned .nilIface ∧ Below w.heap.size w w' := by
  have dk : (a.k != 1) = true := by simpa using hk
  clear hk
  have HOF := Lib.hid (of_is F base ls k x ((w.alloc (.cells (List.toArray [.int .i64 a.k, .int .i64 a.i, .int .i64 a.c, .int .i64 a.n, .int .i64 a.s, .int .i64 a.p, .int .i64 a.l, .int .i64 a.u, .int .i64 a.q]) 48)).alloc (.cells (List.toArray [.int .i64 u.o, .int .i64 u.q, .int .i64 u.w, .int .i64 u.n, .int .i64 u.b, .int .i64 u.s]) 51)) ((h.below (w' := w.alloc (.cells (List.toArray [.int .i64 a.k, .int .i64 a.i, .int .i64 a.c, .int .i64 a.n, .int .i64 a.s, .int .i64 a.p, .int .i64 a.l, .int .i64 a.u, .int .i64 a.q]) 48)) (by go_grown)).below (by go_grown)) hx hl)
  have hB0 : Below w.heap.size w ((w.alloc (.cells (List.toArray [.int .i64 a.k, .int .i64 a.i, .int .i64 a.c, .int .i64 a.n, .int .i64 a.s, .int .i64 a.p, .int .i64 a.l, .int .i64 a.u, .int .i64 a.q]) 48)).alloc (.cells (List.toArray [.int .i64 u.o, .int .i64 u.q, .int .i64 u.w, .int .i64 u.n, .int .i64 u.b, .int .i64 u.s]) 51)) := by go_grown
  have bA := (Bl.new w [.int .i64 a.k, .int .i64 a.i, .int .i64 a.c, .int .i64 a.n, .int .i64 a.s, .int .i64 a.p, .int .i64 a.l, .int .i64 a.u, .int .i64 a.q] 48).below (w' := ((w.alloc (.cells (List.toArray [.int .i64 a.k, .int .i64 a.i, .int .i64 a.c, .int .i64 a.n, .int .i64 a.s, .int .i64 a.p, .int .i64 a.l, .int .i64 a.u, .int .i64 a.q]) 48)).alloc (.cells (List.toArray [.int .i64 u.o, .int .i64 u.q, .int .i64 u.w, .int .i64 u.n, .int .i64 u.b, .int .i64 u.s]) 51))) (by rw [World.size_alloc]; go_grown)
  have bU := Bl.new (w.alloc (.cells (List.toArray [.int .i64 a.k, .int .i64 a.i, .int .i64 a.c, .int .i64 a.n, .int .i64 a.s, .int .i64 a.p, .int .i64 a.l, .int .i64 a.u, .int .i64 a.q]) 48)) [.int .i64 u.o, .int .i64 u.q, .int .i64 u.w, .int .i64 u.n, .int .i64 u.b, .int .i64 u.s] 51
  rw [World.size_alloc] at bU
  have HA := Lib.hid bA
  have HU := Lib.hid bU
  have HB0 := Lib.hid hB0
  clear h hx hl hB0 bA bU
  go_enter Tryd.func11, Tryd.ntmps11
  go_wp2_with fail
  refine HOF.out.mono ?_
  rintro e1 w1 ⟨rfl, hb1⟩
  have bA := HA.out.below hb1
  have bU := HU.out.below hb1
  have HB1 := Lib.hid (Below.step HB0.out hb1)
  clear hb1
  have ca0 : w1.cell? ⟨w.heap.size, 0, none⟩ = some (.int .i64 a.k) := bA.cell 0 _ rfl
  have ca1 : w1.cell? ⟨w.heap.size, 1, none⟩ = some (.int .i64 a.i) := bA.cell 1 _ rfl
  have ca2 : w1.cell? ⟨w.heap.size, 2, none⟩ = some (.int .i64 a.c) := bA.cell 2 _ rfl
  have ca3 : w1.cell? ⟨w.heap.size, 3, none⟩ = some (.int .i64 a.n) := bA.cell 3 _ rfl
  have ca4 : w1.cell? ⟨w.heap.size, 4, none⟩ = some (.int .i64 a.s) := bA.cell 4 _ rfl
  have ca5 : w1.cell? ⟨w.heap.size, 5, none⟩ = some (.int .i64 a.p) := bA.cell 5 _ rfl
  have ca6 : w1.cell? ⟨w.heap.size, 6, none⟩ = some (.int .i64 a.l) := bA.cell 6 _ rfl
  have ca7 : w1.cell? ⟨w.heap.size, 7, none⟩ = some (.int .i64 a.u) := bA.cell 7 _ rfl
  have ca8 : w1.cell? ⟨w.heap.size, 8, none⟩ = some (.int .i64 a.q) := bA.cell 8 _ rfl
  have hA1 := bA.lt
  clear bA bU
  go_wp2_with fail
  go_ret
  exact ⟨rfl, HB1.out.alloc HB1.out.size _⟩
set_option maxRecDepth 100000 in
set_option maxHeartbeats 8000000 in
theorem may_open (F base : Nat) (ls : List Lim) (k : Nat) (x : Lim) (a : As) (u : Us) (last : Int) (w : World) (h : FAt w F base ls) (hx : ls[k]? = some x) (hl : ls.length ≤ 100) (hk : a.k = 1) (hu : Usm u) (hq : sm a.q) (hp : sm a.p) (h1 : x.o < (usWith u a).o) : Calls Tryd.prog 11 #[.pointer (some ⟨F, 0, none⟩), .int .i64 (k : Int), .agg #[.int .i64 a.k, .int .i64 a.i, .int .i64 a.c, .int .i64 a.n, .int .i64 a.s, .int .i64 a.p, .int .i64 a.l, .int .i64 a.u, .int .i64 a.q], .agg #[.int .i64 u.o, .int .i64 u.q, .int .i64 u.w, .int .i64 u.n, .int .i64 u.b, .int .i64 u.s], .int .i64 last] w fun e w' => ∃ r, e = .returned r ∧ Ch w' 4 [.wo ⟨#[111, 112, 101, 110]⟩] r ∧ Below w.heap.size w w' := by
  have HWI := Lib.hid (fun W => with_is u a hu hq hp W)
  obtain ⟨v, hv⟩ : ∃ v, usWith u a = v := ⟨_, rfl⟩
  rw [hv] at h1
  have HV := Lib.hid hv
  have dk : (a.k != 1) = false := by simp [hk]
  clear hk hu hq hp hv
  have d0 : decide (x.o < v.o) = true := decide_eq_true (by omega)
  clear  h1
  have HOF := Lib.hid (of_is F base ls k x ((w.alloc (.cells (List.toArray [.int .i64 a.k, .int .i64 a.i, .int .i64 a.c, .int .i64 a.n, .int .i64 a.s, .int .i64 a.p, .int .i64 a.l, .int .i64 a.u, .int .i64 a.q]) 48)).alloc (.cells (List.toArray [.int .i64 u.o, .int .i64 u.q, .int .i64 u.w, .int .i64 u.n, .int .i64 u.b, .int .i64 u.s]) 51)) ((h.below (w' := w.alloc (.cells (List.toArray [.int .i64 a.k, .int .i64 a.i, .int .i64 a.c, .int .i64 a.n, .int .i64 a.s, .int .i64 a.p, .int .i64 a.l, .int .i64 a.u, .int .i64 a.q]) 48)) (by go_grown)).below (by go_grown)) hx hl)
  have hB0 : Below w.heap.size w ((w.alloc (.cells (List.toArray [.int .i64 a.k, .int .i64 a.i, .int .i64 a.c, .int .i64 a.n, .int .i64 a.s, .int .i64 a.p, .int .i64 a.l, .int .i64 a.u, .int .i64 a.q]) 48)).alloc (.cells (List.toArray [.int .i64 u.o, .int .i64 u.q, .int .i64 u.w, .int .i64 u.n, .int .i64 u.b, .int .i64 u.s]) 51)) := by go_grown
  have bA := (Bl.new w [.int .i64 a.k, .int .i64 a.i, .int .i64 a.c, .int .i64 a.n, .int .i64 a.s, .int .i64 a.p, .int .i64 a.l, .int .i64 a.u, .int .i64 a.q] 48).below (w' := ((w.alloc (.cells (List.toArray [.int .i64 a.k, .int .i64 a.i, .int .i64 a.c, .int .i64 a.n, .int .i64 a.s, .int .i64 a.p, .int .i64 a.l, .int .i64 a.u, .int .i64 a.q]) 48)).alloc (.cells (List.toArray [.int .i64 u.o, .int .i64 u.q, .int .i64 u.w, .int .i64 u.n, .int .i64 u.b, .int .i64 u.s]) 51))) (by rw [World.size_alloc]; go_grown)
  have bU := Bl.new (w.alloc (.cells (List.toArray [.int .i64 a.k, .int .i64 a.i, .int .i64 a.c, .int .i64 a.n, .int .i64 a.s, .int .i64 a.p, .int .i64 a.l, .int .i64 a.u, .int .i64 a.q]) 48)) [.int .i64 u.o, .int .i64 u.q, .int .i64 u.w, .int .i64 u.n, .int .i64 u.b, .int .i64 u.s] 51
  rw [World.size_alloc] at bU
  have HA := Lib.hid bA
  have HU := Lib.hid bU
  have HB0 := Lib.hid hB0
  clear h hx hl hB0 bA bU
  go_enter Tryd.func11, Tryd.ntmps11
  go_wp2_with fail
  refine HOF.out.mono ?_
  rintro e1 w1 ⟨rfl, hb1⟩
  have bA := HA.out.below hb1
  have bU := HU.out.below hb1
  have HB1 := Lib.hid (Below.step HB0.out hb1)
  clear hb1
  have hA1 := bA.lt
  have hU1 := bU.lt
  have ca0 : w1.cell? ⟨w.heap.size, 0, none⟩ = some (.int .i64 a.k) := bA.cell 0 _ rfl
  have ca1 : w1.cell? ⟨w.heap.size, 1, none⟩ = some (.int .i64 a.i) := bA.cell 1 _ rfl
  have ca2 : w1.cell? ⟨w.heap.size, 2, none⟩ = some (.int .i64 a.c) := bA.cell 2 _ rfl
  have ca3 : w1.cell? ⟨w.heap.size, 3, none⟩ = some (.int .i64 a.n) := bA.cell 3 _ rfl
  have ca4 : w1.cell? ⟨w.heap.size, 4, none⟩ = some (.int .i64 a.s) := bA.cell 4 _ rfl
  have ca5 : w1.cell? ⟨w.heap.size, 5, none⟩ = some (.int .i64 a.p) := bA.cell 5 _ rfl
  have ca6 : w1.cell? ⟨w.heap.size, 6, none⟩ = some (.int .i64 a.l) := bA.cell 6 _ rfl
  have ca7 : w1.cell? ⟨w.heap.size, 7, none⟩ = some (.int .i64 a.u) := bA.cell 7 _ rfl
  have ca8 : w1.cell? ⟨w.heap.size, 8, none⟩ = some (.int .i64 a.q) := bA.cell 8 _ rfl
  have cu0 : w1.cell? ⟨w.heap.size + 1, 0, none⟩ = some (.int .i64 u.o) := bU.cell 0 _ rfl
  have cu1 : w1.cell? ⟨w.heap.size + 1, 1, none⟩ = some (.int .i64 u.q) := bU.cell 1 _ rfl
  have cu2 : w1.cell? ⟨w.heap.size + 1, 2, none⟩ = some (.int .i64 u.w) := bU.cell 2 _ rfl
  have cu3 : w1.cell? ⟨w.heap.size + 1, 3, none⟩ = some (.int .i64 u.n) := bU.cell 3 _ rfl
  have cu4 : w1.cell? ⟨w.heap.size + 1, 4, none⟩ = some (.int .i64 u.b) := bU.cell 4 _ rfl
  have cu5 : w1.cell? ⟨w.heap.size + 1, 5, none⟩ = some (.int .i64 u.s) := bU.cell 5 _ rfl
  have HA1 := Lib.hid bA
  have HU1 := Lib.hid bU
  clear bA bU
  go_wp2_with fail
  refine (HWI.out _).mono ?_
  rw [HV.out]
  rintro e2 w2 ⟨rfl, hb2⟩
  have hbx : Below w1.heap.size w1 (w1.alloc (.cells (List.toArray [.int .i64 x.o, .int .i64 x.q, .int .i64 x.w, .int .i64 x.n, .int .i64 x.p]) 61)) := by go_grown
  have bA2 := (HA1.out.below hbx).below hb2
  have bU2 := (HU1.out.below hbx).below hb2
  have bX2 := (Bl.new w1 [.int .i64 x.o, .int .i64 x.q, .int .i64 x.w, .int .i64 x.n, .int .i64 x.p] 61).below hb2
  have HB2 := Lib.hid (Below.step (Below.step HB1.out hbx) hb2)
  have hX2 := bX2.lt
  clear hbx hb2 ca0 ca1 ca2 ca3 ca4 ca5 ca6 ca7 ca8 cu0 cu1 cu2 cu3 cu4 cu5
  have ca0 : w2.cell? ⟨w.heap.size, 0, none⟩ = some (.int .i64 a.k) := bA2.cell 0 _ rfl
  have ca1 : w2.cell? ⟨w.heap.size, 1, none⟩ = some (.int .i64 a.i) := bA2.cell 1 _ rfl
  have ca2 : w2.cell? ⟨w.heap.size, 2, none⟩ = some (.int .i64 a.c) := bA2.cell 2 _ rfl
  have ca3 : w2.cell? ⟨w.heap.size, 3, none⟩ = some (.int .i64 a.n) := bA2.cell 3 _ rfl
  have ca4 : w2.cell? ⟨w.heap.size, 4, none⟩ = some (.int .i64 a.s) := bA2.cell 4 _ rfl
  have ca5 : w2.cell? ⟨w.heap.size, 5, none⟩ = some (.int .i64 a.p) := bA2.cell 5 _ rfl
  have ca6 : w2.cell? ⟨w.heap.size, 6, none⟩ = some (.int .i64 a.l) := bA2.cell 6 _ rfl
  have ca7 : w2.cell? ⟨w.heap.size, 7, none⟩ = some (.int .i64 a.u) := bA2.cell 7 _ rfl
  have ca8 : w2.cell? ⟨w.heap.size, 8, none⟩ = some (.int .i64 a.q) := bA2.cell 8 _ rfl
  have cu0 : w2.cell? ⟨w.heap.size + 1, 0, none⟩ = some (.int .i64 u.o) := bU2.cell 0 _ rfl
  have cu1 : w2.cell? ⟨w.heap.size + 1, 1, none⟩ = some (.int .i64 u.q) := bU2.cell 1 _ rfl
  have cu2 : w2.cell? ⟨w.heap.size + 1, 2, none⟩ = some (.int .i64 u.w) := bU2.cell 2 _ rfl
  have cu3 : w2.cell? ⟨w.heap.size + 1, 3, none⟩ = some (.int .i64 u.n) := bU2.cell 3 _ rfl
  have cu4 : w2.cell? ⟨w.heap.size + 1, 4, none⟩ = some (.int .i64 u.b) := bU2.cell 4 _ rfl
  have cu5 : w2.cell? ⟨w.heap.size + 1, 5, none⟩ = some (.int .i64 u.s) := bU2.cell 5 _ rfl
  have cx0 : w2.cell? ⟨w1.heap.size, 0, none⟩ = some (.int .i64 x.o) := bX2.cell 0 _ rfl
  have cx1 : w2.cell? ⟨w1.heap.size, 1, none⟩ = some (.int .i64 x.q) := bX2.cell 1 _ rfl
  have cx2 : w2.cell? ⟨w1.heap.size, 2, none⟩ = some (.int .i64 x.w) := bX2.cell 2 _ rfl
  have cx3 : w2.cell? ⟨w1.heap.size, 3, none⟩ = some (.int .i64 x.n) := bX2.cell 3 _ rfl
  have cx4 : w2.cell? ⟨w1.heap.size, 4, none⟩ = some (.int .i64 x.p) := bX2.cell 4 _ rfl
  have fu0 := bU2.frz 0
  have fu1 := bU2.frz 1
  have fu2 := bU2.frz 2
  have fu3 := bU2.frz 3
  have fu4 := bU2.frz 4
  have fu5 := bU2.frz 5
  have hn1 : w.heap.size + 1 ≠ w1.heap.size := by omega
  have hn2 : w1.heap.size ≠ w.heap.size + 1 := by omega
  have hn3 : w.heap.size ≠ w.heap.size + 1 := by omega
  have HA2 := Lib.hid bA2
  have HX2 := Lib.hid bX2
  have HU2 := Lib.hid bU2
  clear bA2 bU2 bX2
  go_wp2_with fail
  refine (with_ch _ [] 4 _ _ rfl).mono ?_
  rintro e3 w3 ⟨r, rfl, hc3, hb3⟩
  obtain ⟨T, y, rfl⟩ := hc3.iface
  have HC3 := Lib.hid hc3
  have HB3 := Lib.hid hb3
  clear hc3 hb3
  go_wp2_with fail
  go_ret
  exact ⟨_, rfl, HC3.out, Below.step (((((((HB2.out.setCell (p := ⟨w.heap.size + 1, 0, none⟩) (Nat.le_succ _) (.int .i64 v.o)).setCell (p := ⟨w.heap.size + 1, 1, none⟩) (Nat.le_succ _) (.int .i64 v.q)).setCell (p := ⟨w.heap.size + 1, 2, none⟩) (Nat.le_succ _) (.int .i64 v.w)).setCell (p := ⟨w.heap.size + 1, 3, none⟩) (Nat.le_succ _) (.int .i64 v.n)).setCell (p := ⟨w.heap.size + 1, 4, none⟩) (Nat.le_succ _) (.int .i64 v.b)).setCell (p := ⟨w.heap.size + 1, 5, none⟩) (Nat.le_succ _) (.int .i64 v.s))) HB3.out⟩
set_option maxRecDepth 100000 in
set_option maxHeartbeats 8000000 in
theorem may_qty (F base : Nat) (ls : List Lim) (k : Nat) (x : Lim) (a : As) (u : Us) (last : Int) (w : World) (h : FAt w F base ls) (hx : ls[k]? = some x) (hl : ls.length ≤ 100) (hk : a.k = 1) (hu : Usm u) (hq : sm a.q) (hp : sm a.p) (k0 : (usWith u a).o ≤ x.o) (h1 : x.q < (usWith u a).q) : Calls Tryd.prog 11 #[.pointer (some ⟨F, 0, none⟩), .int .i64 (k : Int), .agg #[.int .i64 a.k, .int .i64 a.i, .int .i64 a.c, .int .i64 a.n, .int .i64 a.s, .int .i64 a.p, .int .i64 a.l, .int .i64 a.u, .int .i64 a.q], .agg #[.int .i64 u.o, .int .i64 u.q, .int .i64 u.w, .int .i64 u.n, .int .i64 u.b, .int .i64 u.s], .int .i64 last] w fun e w' => ∃ r, e = .returned r ∧ Ch w' 4 [.wo ⟨#[113, 116, 121]⟩] r ∧ Below w.heap.size w w' := by
  have HWI := Lib.hid (fun W => with_is u a hu hq hp W)
  obtain ⟨v, hv⟩ : ∃ v, usWith u a = v := ⟨_, rfl⟩
  rw [hv] at k0 h1
  have HV := Lib.hid hv
  have dk : (a.k != 1) = false := by simp [hk]
  clear hk hu hq hp hv
  have d0 : decide (x.o < v.o) = false := decide_eq_false (by omega)
  have d1 : decide (x.q < v.q) = true := decide_eq_true (by omega)
  clear k0 h1
  have HOF := Lib.hid (of_is F base ls k x ((w.alloc (.cells (List.toArray [.int .i64 a.k, .int .i64 a.i, .int .i64 a.c, .int .i64 a.n, .int .i64 a.s, .int .i64 a.p, .int .i64 a.l, .int .i64 a.u, .int .i64 a.q]) 48)).alloc (.cells (List.toArray [.int .i64 u.o, .int .i64 u.q, .int .i64 u.w, .int .i64 u.n, .int .i64 u.b, .int .i64 u.s]) 51)) ((h.below (w' := w.alloc (.cells (List.toArray [.int .i64 a.k, .int .i64 a.i, .int .i64 a.c, .int .i64 a.n, .int .i64 a.s, .int .i64 a.p, .int .i64 a.l, .int .i64 a.u, .int .i64 a.q]) 48)) (by go_grown)).below (by go_grown)) hx hl)
  have hB0 : Below w.heap.size w ((w.alloc (.cells (List.toArray [.int .i64 a.k, .int .i64 a.i, .int .i64 a.c, .int .i64 a.n, .int .i64 a.s, .int .i64 a.p, .int .i64 a.l, .int .i64 a.u, .int .i64 a.q]) 48)).alloc (.cells (List.toArray [.int .i64 u.o, .int .i64 u.q, .int .i64 u.w, .int .i64 u.n, .int .i64 u.b, .int .i64 u.s]) 51)) := by go_grown
  have bA := (Bl.new w [.int .i64 a.k, .int .i64 a.i, .int .i64 a.c, .int .i64 a.n, .int .i64 a.s, .int .i64 a.p, .int .i64 a.l, .int .i64 a.u, .int .i64 a.q] 48).below (w' := ((w.alloc (.cells (List.toArray [.int .i64 a.k, .int .i64 a.i, .int .i64 a.c, .int .i64 a.n, .int .i64 a.s, .int .i64 a.p, .int .i64 a.l, .int .i64 a.u, .int .i64 a.q]) 48)).alloc (.cells (List.toArray [.int .i64 u.o, .int .i64 u.q, .int .i64 u.w, .int .i64 u.n, .int .i64 u.b, .int .i64 u.s]) 51))) (by rw [World.size_alloc]; go_grown)
  have bU := Bl.new (w.alloc (.cells (List.toArray [.int .i64 a.k, .int .i64 a.i, .int .i64 a.c, .int .i64 a.n, .int .i64 a.s, .int .i64 a.p, .int .i64 a.l, .int .i64 a.u, .int .i64 a.q]) 48)) [.int .i64 u.o, .int .i64 u.q, .int .i64 u.w, .int .i64 u.n, .int .i64 u.b, .int .i64 u.s] 51
  rw [World.size_alloc] at bU
  have HA := Lib.hid bA
  have HU := Lib.hid bU
  have HB0 := Lib.hid hB0
  clear h hx hl hB0 bA bU
  go_enter Tryd.func11, Tryd.ntmps11
  go_wp2_with fail
  refine HOF.out.mono ?_
  rintro e1 w1 ⟨rfl, hb1⟩
  have bA := HA.out.below hb1
  have bU := HU.out.below hb1
  have HB1 := Lib.hid (Below.step HB0.out hb1)
  clear hb1
  have hA1 := bA.lt
  have hU1 := bU.lt
  have ca0 : w1.cell? ⟨w.heap.size, 0, none⟩ = some (.int .i64 a.k) := bA.cell 0 _ rfl
  have ca1 : w1.cell? ⟨w.heap.size, 1, none⟩ = some (.int .i64 a.i) := bA.cell 1 _ rfl
  have ca2 : w1.cell? ⟨w.heap.size, 2, none⟩ = some (.int .i64 a.c) := bA.cell 2 _ rfl
  have ca3 : w1.cell? ⟨w.heap.size, 3, none⟩ = some (.int .i64 a.n) := bA.cell 3 _ rfl
  have ca4 : w1.cell? ⟨w.heap.size, 4, none⟩ = some (.int .i64 a.s) := bA.cell 4 _ rfl
  have ca5 : w1.cell? ⟨w.heap.size, 5, none⟩ = some (.int .i64 a.p) := bA.cell 5 _ rfl
  have ca6 : w1.cell? ⟨w.heap.size, 6, none⟩ = some (.int .i64 a.l) := bA.cell 6 _ rfl
  have ca7 : w1.cell? ⟨w.heap.size, 7, none⟩ = some (.int .i64 a.u) := bA.cell 7 _ rfl
  have ca8 : w1.cell? ⟨w.heap.size, 8, none⟩ = some (.int .i64 a.q) := bA.cell 8 _ rfl
  have cu0 : w1.cell? ⟨w.heap.size + 1, 0, none⟩ = some (.int .i64 u.o) := bU.cell 0 _ rfl
  have cu1 : w1.cell? ⟨w.heap.size + 1, 1, none⟩ = some (.int .i64 u.q) := bU.cell 1 _ rfl
  have cu2 : w1.cell? ⟨w.heap.size + 1, 2, none⟩ = some (.int .i64 u.w) := bU.cell 2 _ rfl
  have cu3 : w1.cell? ⟨w.heap.size + 1, 3, none⟩ = some (.int .i64 u.n) := bU.cell 3 _ rfl
  have cu4 : w1.cell? ⟨w.heap.size + 1, 4, none⟩ = some (.int .i64 u.b) := bU.cell 4 _ rfl
  have cu5 : w1.cell? ⟨w.heap.size + 1, 5, none⟩ = some (.int .i64 u.s) := bU.cell 5 _ rfl
  have HA1 := Lib.hid bA
  have HU1 := Lib.hid bU
  clear bA bU
  go_wp2_with fail
  refine (HWI.out _).mono ?_
  rw [HV.out]
  rintro e2 w2 ⟨rfl, hb2⟩
  have hbx : Below w1.heap.size w1 (w1.alloc (.cells (List.toArray [.int .i64 x.o, .int .i64 x.q, .int .i64 x.w, .int .i64 x.n, .int .i64 x.p]) 61)) := by go_grown
  have bA2 := (HA1.out.below hbx).below hb2
  have bU2 := (HU1.out.below hbx).below hb2
  have bX2 := (Bl.new w1 [.int .i64 x.o, .int .i64 x.q, .int .i64 x.w, .int .i64 x.n, .int .i64 x.p] 61).below hb2
  have HB2 := Lib.hid (Below.step (Below.step HB1.out hbx) hb2)
  have hX2 := bX2.lt
  clear hbx hb2 ca0 ca1 ca2 ca3 ca4 ca5 ca6 ca7 ca8 cu0 cu1 cu2 cu3 cu4 cu5
  have ca0 : w2.cell? ⟨w.heap.size, 0, none⟩ = some (.int .i64 a.k) := bA2.cell 0 _ rfl
  have ca1 : w2.cell? ⟨w.heap.size, 1, none⟩ = some (.int .i64 a.i) := bA2.cell 1 _ rfl
  have ca2 : w2.cell? ⟨w.heap.size, 2, none⟩ = some (.int .i64 a.c) := bA2.cell 2 _ rfl
  have ca3 : w2.cell? ⟨w.heap.size, 3, none⟩ = some (.int .i64 a.n) := bA2.cell 3 _ rfl
  have ca4 : w2.cell? ⟨w.heap.size, 4, none⟩ = some (.int .i64 a.s) := bA2.cell 4 _ rfl
  have ca5 : w2.cell? ⟨w.heap.size, 5, none⟩ = some (.int .i64 a.p) := bA2.cell 5 _ rfl
  have ca6 : w2.cell? ⟨w.heap.size, 6, none⟩ = some (.int .i64 a.l) := bA2.cell 6 _ rfl
  have ca7 : w2.cell? ⟨w.heap.size, 7, none⟩ = some (.int .i64 a.u) := bA2.cell 7 _ rfl
  have ca8 : w2.cell? ⟨w.heap.size, 8, none⟩ = some (.int .i64 a.q) := bA2.cell 8 _ rfl
  have cu0 : w2.cell? ⟨w.heap.size + 1, 0, none⟩ = some (.int .i64 u.o) := bU2.cell 0 _ rfl
  have cu1 : w2.cell? ⟨w.heap.size + 1, 1, none⟩ = some (.int .i64 u.q) := bU2.cell 1 _ rfl
  have cu2 : w2.cell? ⟨w.heap.size + 1, 2, none⟩ = some (.int .i64 u.w) := bU2.cell 2 _ rfl
  have cu3 : w2.cell? ⟨w.heap.size + 1, 3, none⟩ = some (.int .i64 u.n) := bU2.cell 3 _ rfl
  have cu4 : w2.cell? ⟨w.heap.size + 1, 4, none⟩ = some (.int .i64 u.b) := bU2.cell 4 _ rfl
  have cu5 : w2.cell? ⟨w.heap.size + 1, 5, none⟩ = some (.int .i64 u.s) := bU2.cell 5 _ rfl
  have cx0 : w2.cell? ⟨w1.heap.size, 0, none⟩ = some (.int .i64 x.o) := bX2.cell 0 _ rfl
  have cx1 : w2.cell? ⟨w1.heap.size, 1, none⟩ = some (.int .i64 x.q) := bX2.cell 1 _ rfl
  have cx2 : w2.cell? ⟨w1.heap.size, 2, none⟩ = some (.int .i64 x.w) := bX2.cell 2 _ rfl
  have cx3 : w2.cell? ⟨w1.heap.size, 3, none⟩ = some (.int .i64 x.n) := bX2.cell 3 _ rfl
  have cx4 : w2.cell? ⟨w1.heap.size, 4, none⟩ = some (.int .i64 x.p) := bX2.cell 4 _ rfl
  have fu0 := bU2.frz 0
  have fu1 := bU2.frz 1
  have fu2 := bU2.frz 2
  have fu3 := bU2.frz 3
  have fu4 := bU2.frz 4
  have fu5 := bU2.frz 5
  have hn1 : w.heap.size + 1 ≠ w1.heap.size := by omega
  have hn2 : w1.heap.size ≠ w.heap.size + 1 := by omega
  have hn3 : w.heap.size ≠ w.heap.size + 1 := by omega
  have HA2 := Lib.hid bA2
  have HX2 := Lib.hid bX2
  have HU2 := Lib.hid bU2
  clear bA2 bU2 bX2
  go_wp2_with fail
  refine (with_ch _ [] 4 _ _ rfl).mono ?_
  rintro e3 w3 ⟨r, rfl, hc3, hb3⟩
  obtain ⟨T, y, rfl⟩ := hc3.iface
  have HC3 := Lib.hid hc3
  have HB3 := Lib.hid hb3
  clear hc3 hb3
  go_wp2_with fail
  go_ret
  exact ⟨_, rfl, HC3.out, Below.step (((((((HB2.out.setCell (p := ⟨w.heap.size + 1, 0, none⟩) (Nat.le_succ _) (.int .i64 v.o)).setCell (p := ⟨w.heap.size + 1, 1, none⟩) (Nat.le_succ _) (.int .i64 v.q)).setCell (p := ⟨w.heap.size + 1, 2, none⟩) (Nat.le_succ _) (.int .i64 v.w)).setCell (p := ⟨w.heap.size + 1, 3, none⟩) (Nat.le_succ _) (.int .i64 v.n)).setCell (p := ⟨w.heap.size + 1, 4, none⟩) (Nat.le_succ _) (.int .i64 v.b)).setCell (p := ⟨w.heap.size + 1, 5, none⟩) (Nat.le_succ _) (.int .i64 v.s))) HB3.out⟩
set_option maxRecDepth 100000 in
set_option maxHeartbeats 8000000 in
theorem may_worth (F base : Nat) (ls : List Lim) (k : Nat) (x : Lim) (a : As) (u : Us) (last : Int) (w : World) (h : FAt w F base ls) (hx : ls[k]? = some x) (hl : ls.length ≤ 100) (hk : a.k = 1) (hu : Usm u) (hq : sm a.q) (hp : sm a.p) (k0 : (usWith u a).o ≤ x.o) (k1 : (usWith u a).q ≤ x.q) (h1 : x.w < (usWith u a).w) : Calls Tryd.prog 11 #[.pointer (some ⟨F, 0, none⟩), .int .i64 (k : Int), .agg #[.int .i64 a.k, .int .i64 a.i, .int .i64 a.c, .int .i64 a.n, .int .i64 a.s, .int .i64 a.p, .int .i64 a.l, .int .i64 a.u, .int .i64 a.q], .agg #[.int .i64 u.o, .int .i64 u.q, .int .i64 u.w, .int .i64 u.n, .int .i64 u.b, .int .i64 u.s], .int .i64 last] w fun e w' => ∃ r, e = .returned r ∧ Ch w' 4 [.wo ⟨#[119, 111, 114, 116, 104]⟩] r ∧ Below w.heap.size w w' := by
  have HWI := Lib.hid (fun W => with_is u a hu hq hp W)
  obtain ⟨v, hv⟩ : ∃ v, usWith u a = v := ⟨_, rfl⟩
  rw [hv] at k0 k1 h1
  have HV := Lib.hid hv
  have dk : (a.k != 1) = false := by simp [hk]
  clear hk hu hq hp hv
  have d0 : decide (x.o < v.o) = false := decide_eq_false (by omega)
  have d1 : decide (x.q < v.q) = false := decide_eq_false (by omega)
  have d2 : decide (x.w < v.w) = true := decide_eq_true (by omega)
  clear k0 k1 h1
  have HOF := Lib.hid (of_is F base ls k x ((w.alloc (.cells (List.toArray [.int .i64 a.k, .int .i64 a.i, .int .i64 a.c, .int .i64 a.n, .int .i64 a.s, .int .i64 a.p, .int .i64 a.l, .int .i64 a.u, .int .i64 a.q]) 48)).alloc (.cells (List.toArray [.int .i64 u.o, .int .i64 u.q, .int .i64 u.w, .int .i64 u.n, .int .i64 u.b, .int .i64 u.s]) 51)) ((h.below (w' := w.alloc (.cells (List.toArray [.int .i64 a.k, .int .i64 a.i, .int .i64 a.c, .int .i64 a.n, .int .i64 a.s, .int .i64 a.p, .int .i64 a.l, .int .i64 a.u, .int .i64 a.q]) 48)) (by go_grown)).below (by go_grown)) hx hl)
  have hB0 : Below w.heap.size w ((w.alloc (.cells (List.toArray [.int .i64 a.k, .int .i64 a.i, .int .i64 a.c, .int .i64 a.n, .int .i64 a.s, .int .i64 a.p, .int .i64 a.l, .int .i64 a.u, .int .i64 a.q]) 48)).alloc (.cells (List.toArray [.int .i64 u.o, .int .i64 u.q, .int .i64 u.w, .int .i64 u.n, .int .i64 u.b, .int .i64 u.s]) 51)) := by go_grown
  have bA := (Bl.new w [.int .i64 a.k, .int .i64 a.i, .int .i64 a.c, .int .i64 a.n, .int .i64 a.s, .int .i64 a.p, .int .i64 a.l, .int .i64 a.u, .int .i64 a.q] 48).below (w' := ((w.alloc (.cells (List.toArray [.int .i64 a.k, .int .i64 a.i, .int .i64 a.c, .int .i64 a.n, .int .i64 a.s, .int .i64 a.p, .int .i64 a.l, .int .i64 a.u, .int .i64 a.q]) 48)).alloc (.cells (List.toArray [.int .i64 u.o, .int .i64 u.q, .int .i64 u.w, .int .i64 u.n, .int .i64 u.b, .int .i64 u.s]) 51))) (by rw [World.size_alloc]; go_grown)
  have bU := Bl.new (w.alloc (.cells (List.toArray [.int .i64 a.k, .int .i64 a.i, .int .i64 a.c, .int .i64 a.n, .int .i64 a.s, .int .i64 a.p, .int .i64 a.l, .int .i64 a.u, .int .i64 a.q]) 48)) [.int .i64 u.o, .int .i64 u.q, .int .i64 u.w, .int .i64 u.n, .int .i64 u.b, .int .i64 u.s] 51
  rw [World.size_alloc] at bU
  have HA := Lib.hid bA
  have HU := Lib.hid bU
  have HB0 := Lib.hid hB0
  clear h hx hl hB0 bA bU
  go_enter Tryd.func11, Tryd.ntmps11
  go_wp2_with fail
  refine HOF.out.mono ?_
  rintro e1 w1 ⟨rfl, hb1⟩
  have bA := HA.out.below hb1
  have bU := HU.out.below hb1
  have HB1 := Lib.hid (Below.step HB0.out hb1)
  clear hb1
  have hA1 := bA.lt
  have hU1 := bU.lt
  have ca0 : w1.cell? ⟨w.heap.size, 0, none⟩ = some (.int .i64 a.k) := bA.cell 0 _ rfl
  have ca1 : w1.cell? ⟨w.heap.size, 1, none⟩ = some (.int .i64 a.i) := bA.cell 1 _ rfl
  have ca2 : w1.cell? ⟨w.heap.size, 2, none⟩ = some (.int .i64 a.c) := bA.cell 2 _ rfl
  have ca3 : w1.cell? ⟨w.heap.size, 3, none⟩ = some (.int .i64 a.n) := bA.cell 3 _ rfl
  have ca4 : w1.cell? ⟨w.heap.size, 4, none⟩ = some (.int .i64 a.s) := bA.cell 4 _ rfl
  have ca5 : w1.cell? ⟨w.heap.size, 5, none⟩ = some (.int .i64 a.p) := bA.cell 5 _ rfl
  have ca6 : w1.cell? ⟨w.heap.size, 6, none⟩ = some (.int .i64 a.l) := bA.cell 6 _ rfl
  have ca7 : w1.cell? ⟨w.heap.size, 7, none⟩ = some (.int .i64 a.u) := bA.cell 7 _ rfl
  have ca8 : w1.cell? ⟨w.heap.size, 8, none⟩ = some (.int .i64 a.q) := bA.cell 8 _ rfl
  have cu0 : w1.cell? ⟨w.heap.size + 1, 0, none⟩ = some (.int .i64 u.o) := bU.cell 0 _ rfl
  have cu1 : w1.cell? ⟨w.heap.size + 1, 1, none⟩ = some (.int .i64 u.q) := bU.cell 1 _ rfl
  have cu2 : w1.cell? ⟨w.heap.size + 1, 2, none⟩ = some (.int .i64 u.w) := bU.cell 2 _ rfl
  have cu3 : w1.cell? ⟨w.heap.size + 1, 3, none⟩ = some (.int .i64 u.n) := bU.cell 3 _ rfl
  have cu4 : w1.cell? ⟨w.heap.size + 1, 4, none⟩ = some (.int .i64 u.b) := bU.cell 4 _ rfl
  have cu5 : w1.cell? ⟨w.heap.size + 1, 5, none⟩ = some (.int .i64 u.s) := bU.cell 5 _ rfl
  have HA1 := Lib.hid bA
  have HU1 := Lib.hid bU
  clear bA bU
  go_wp2_with fail
  refine (HWI.out _).mono ?_
  rw [HV.out]
  rintro e2 w2 ⟨rfl, hb2⟩
  have hbx : Below w1.heap.size w1 (w1.alloc (.cells (List.toArray [.int .i64 x.o, .int .i64 x.q, .int .i64 x.w, .int .i64 x.n, .int .i64 x.p]) 61)) := by go_grown
  have bA2 := (HA1.out.below hbx).below hb2
  have bU2 := (HU1.out.below hbx).below hb2
  have bX2 := (Bl.new w1 [.int .i64 x.o, .int .i64 x.q, .int .i64 x.w, .int .i64 x.n, .int .i64 x.p] 61).below hb2
  have HB2 := Lib.hid (Below.step (Below.step HB1.out hbx) hb2)
  have hX2 := bX2.lt
  clear hbx hb2 ca0 ca1 ca2 ca3 ca4 ca5 ca6 ca7 ca8 cu0 cu1 cu2 cu3 cu4 cu5
  have ca0 : w2.cell? ⟨w.heap.size, 0, none⟩ = some (.int .i64 a.k) := bA2.cell 0 _ rfl
  have ca1 : w2.cell? ⟨w.heap.size, 1, none⟩ = some (.int .i64 a.i) := bA2.cell 1 _ rfl
  have ca2 : w2.cell? ⟨w.heap.size, 2, none⟩ = some (.int .i64 a.c) := bA2.cell 2 _ rfl
  have ca3 : w2.cell? ⟨w.heap.size, 3, none⟩ = some (.int .i64 a.n) := bA2.cell 3 _ rfl
  have ca4 : w2.cell? ⟨w.heap.size, 4, none⟩ = some (.int .i64 a.s) := bA2.cell 4 _ rfl
  have ca5 : w2.cell? ⟨w.heap.size, 5, none⟩ = some (.int .i64 a.p) := bA2.cell 5 _ rfl
  have ca6 : w2.cell? ⟨w.heap.size, 6, none⟩ = some (.int .i64 a.l) := bA2.cell 6 _ rfl
  have ca7 : w2.cell? ⟨w.heap.size, 7, none⟩ = some (.int .i64 a.u) := bA2.cell 7 _ rfl
  have ca8 : w2.cell? ⟨w.heap.size, 8, none⟩ = some (.int .i64 a.q) := bA2.cell 8 _ rfl
  have cu0 : w2.cell? ⟨w.heap.size + 1, 0, none⟩ = some (.int .i64 u.o) := bU2.cell 0 _ rfl
  have cu1 : w2.cell? ⟨w.heap.size + 1, 1, none⟩ = some (.int .i64 u.q) := bU2.cell 1 _ rfl
  have cu2 : w2.cell? ⟨w.heap.size + 1, 2, none⟩ = some (.int .i64 u.w) := bU2.cell 2 _ rfl
  have cu3 : w2.cell? ⟨w.heap.size + 1, 3, none⟩ = some (.int .i64 u.n) := bU2.cell 3 _ rfl
  have cu4 : w2.cell? ⟨w.heap.size + 1, 4, none⟩ = some (.int .i64 u.b) := bU2.cell 4 _ rfl
  have cu5 : w2.cell? ⟨w.heap.size + 1, 5, none⟩ = some (.int .i64 u.s) := bU2.cell 5 _ rfl
  have cx0 : w2.cell? ⟨w1.heap.size, 0, none⟩ = some (.int .i64 x.o) := bX2.cell 0 _ rfl
  have cx1 : w2.cell? ⟨w1.heap.size, 1, none⟩ = some (.int .i64 x.q) := bX2.cell 1 _ rfl
  have cx2 : w2.cell? ⟨w1.heap.size, 2, none⟩ = some (.int .i64 x.w) := bX2.cell 2 _ rfl
  have cx3 : w2.cell? ⟨w1.heap.size, 3, none⟩ = some (.int .i64 x.n) := bX2.cell 3 _ rfl
  have cx4 : w2.cell? ⟨w1.heap.size, 4, none⟩ = some (.int .i64 x.p) := bX2.cell 4 _ rfl
  have fu0 := bU2.frz 0
  have fu1 := bU2.frz 1
  have fu2 := bU2.frz 2
  have fu3 := bU2.frz 3
  have fu4 := bU2.frz 4
  have fu5 := bU2.frz 5
  have hn1 : w.heap.size + 1 ≠ w1.heap.size := by omega
  have hn2 : w1.heap.size ≠ w.heap.size + 1 := by omega
  have hn3 : w.heap.size ≠ w.heap.size + 1 := by omega
  have HA2 := Lib.hid bA2
  have HX2 := Lib.hid bX2
  have HU2 := Lib.hid bU2
  clear bA2 bU2 bX2
  go_wp2_with fail
  refine (with_ch _ [] 4 _ _ rfl).mono ?_
  rintro e3 w3 ⟨r, rfl, hc3, hb3⟩
  obtain ⟨T, y, rfl⟩ := hc3.iface
  have HC3 := Lib.hid hc3
  have HB3 := Lib.hid hb3
  clear hc3 hb3
  go_wp2_with fail
  go_ret
  exact ⟨_, rfl, HC3.out, Below.step (((((((HB2.out.setCell (p := ⟨w.heap.size + 1, 0, none⟩) (Nat.le_succ _) (.int .i64 v.o)).setCell (p := ⟨w.heap.size + 1, 1, none⟩) (Nat.le_succ _) (.int .i64 v.q)).setCell (p := ⟨w.heap.size + 1, 2, none⟩) (Nat.le_succ _) (.int .i64 v.w)).setCell (p := ⟨w.heap.size + 1, 3, none⟩) (Nat.le_succ _) (.int .i64 v.n)).setCell (p := ⟨w.heap.size + 1, 4, none⟩) (Nat.le_succ _) (.int .i64 v.b)).setCell (p := ⟨w.heap.size + 1, 5, none⟩) (Nat.le_succ _) (.int .i64 v.s))) HB3.out⟩
end Go.Proofs.YtmddgaokdlhegaaDoor

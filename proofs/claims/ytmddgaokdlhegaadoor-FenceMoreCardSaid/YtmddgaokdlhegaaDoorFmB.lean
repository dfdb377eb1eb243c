/-
  The ways on which nothing is asked.
-/
import Derived.Test.YtmddgaokdlhegaaDoorRows
import Derived.Test.YtmddgaokdlhegaaDoorKit
import Derived.Test.YtmddgaokdlhegaaDoorApp
import Derived.Test.YtmddgaokdlhegaaDoorQuiet
import Derived.Test.YtmddgaokdlhegaaDoorFnM
import Derived.Test.YtmddgaokdlhegaaDoorFnO
import Derived.Test.YtmddgaokdlhegaaDoorFnB
import Derived.Test.YtmddgaokdlhegaaDoorAsF
import Derived.Test.YtmddgaokdlhegaaDoorAsC
import Derived.Test.YtmddgaokdlhegaaDoorAsD
import Derived.Test.YtmddgaokdlhegaaDoorAsE
import Derived.Test.YtmddgaokdlhegaaDoorFnR
import Derived.Test.YtmddgaokdlhegaaDoorFnL
import Derived.Test.YtmddgaokdlhegaaDoorFnN
import Derived.Test.YtmddgaokdlhegaaDoorFnKa
import Derived.Test.YtmddgaokdlhegaaDoorFnW
import Derived.Test.YtmddgaokdlhegaaDoorFnV
import Derived.Test.YtmddgaokdlhegaaDoorFnA
import Derived.Test.YtmddgaokdlhegaaDoorFnRules
import Derived.WalkKit
import Derived.ProofKit
import Derived.OpenShut
import Derived.ShutString
import Derived.Below
import Derived.Outline
import Derived.WalkLawsBesides
import Derived.WalkSpells
import Derived.Handy
import Derived.Deep.QuietTactic
import Derived.BigQuiet
import Derived.RegionTactic
import Derived.ChangeAlike
import Derived.Lib.Hide
import Derived.Laws.Rows
import Derived.Laws.Tables
import Derived.Laws.CopyOwn
import Derived.Laws.MakeOwn
import Derived.Laws.Entries
import Derived.Laws.OwnMore
import Derived.Deep.WholeRow
import Derived.Deep.LoopGhost
import Derived.Deep.AppendLies
import Derived.Deep.Draws
import Derived.Maps.AppendAt
import Derived.OwnWalk
import Derived.Deep.RegionHeld3
import Derived.Deep.Cut
import Derived.Deep.CutRange
import Derived.Deep.DeepCutAuto
import Derived.Deep.CutBlock
import Derived.Lib.SliceRun
import Derived.IntWalk
namespace Go.Proofs.YtmddgaokdlhegaaDoor.fenceMore
open Go.ChangeShapes Go.WideShapes Go.ChangeAt Go.RowKit
set_option maxRecDepth 100000 in
set_option maxHeartbeats 8000000 in
theorem bad (p c n b r f g : Int) (A : Option Addr) (ln cp : Nat) (gv : Nat → Lim) (mo pt : Int) (a : As) (u : Us) (last : Int) (w : World) (hg : w.cell? ⟨0, 0, none⟩ = some (.iface 95 (.agg #[.pointer (some ⟨1, 35, none⟩)]))) (hgl : 0 < w.heap.size) (h : ¬ ((1 ≤ p ∧ p ≤ 6) ∧ (1 ≤ c ∧ c ≤ 4) ∧ (1 ≤ n ∧ n ≤ 3) ∧ (1 ≤ b ∧ b ≤ 4) ∧ (0 ≤ r ∧ r ≤ 4) ∧ (1 ≤ f ∧ f ≤ 4) ∧ (1 ≤ g ∧ g ≤ 15))) : Calls Tryd.prog 3 #[.agg #[.int .i64 p, .int .i64 c, .int .i64 n, .int .i64 b, .int .i64 r, .int .i64 f, .int .i64 g], .slice A ln cp, .int .u16 mo, .int .i64 pt, .agg #[.int .i64 a.k, .int .i64 a.i, .int .i64 a.c, .int .i64 a.n, .int .i64 a.s, .int .i64 a.p, .int .i64 a.l, .int .i64 a.u, .int .i64 a.q], .agg #[.int .i64 u.o, .int .i64 u.q, .int .i64 u.w, .int .i64 u.n, .int .i64 u.b, .int .i64 u.s], .int .i64 last] w fun e w' => e = .returned (.bool true) ∧ Below w.heap.size w w' := by
  have HN := Lib.hid (fun W => rnew_bad p c n b r f g W h)
  clear h
  have HGG := Lib.hid hg
  clear hg
  go_enter Tryd.func3, Tryd.ntmps3
  go_wp2_with fail
  obtain ⟨W0, hW0⟩ : ∃ W0, W0 = (((w.alloc (.cells (List.toArray [.int .i64 p, .int .i64 c, .int .i64 n, .int .i64 b, .int .i64 r, .int .i64 f, .int .i64 g]) 23)).alloc (.cells (List.toArray [.int .i64 a.k, .int .i64 a.i, .int .i64 a.c, .int .i64 a.n, .int .i64 a.s, .int .i64 a.p, .int .i64 a.l, .int .i64 a.u, .int .i64 a.q]) 29)).alloc (.cells (List.toArray [.int .i64 u.o, .int .i64 u.q, .int .i64 u.w, .int .i64 u.n, .int .i64 u.b, .int .i64 u.s]) 31)) := ⟨_, rfl⟩
  have bC : Bl w.heap.size [.int .i64 p, .int .i64 c, .int .i64 n, .int .i64 b, .int .i64 r, .int .i64 f, .int .i64 g] W0 := by
    rw [hW0]
    have h := ((Bl.new w [.int .i64 p, .int .i64 c, .int .i64 n, .int .i64 b, .int .i64 r, .int .i64 f, .int .i64 g] 23).below (w' := ((w.alloc (.cells (List.toArray [.int .i64 p, .int .i64 c, .int .i64 n, .int .i64 b, .int .i64 r, .int .i64 f, .int .i64 g]) 23)).alloc (.cells (List.toArray [.int .i64 a.k, .int .i64 a.i, .int .i64 a.c, .int .i64 a.n, .int .i64 a.s, .int .i64 a.p, .int .i64 a.l, .int .i64 a.u, .int .i64 a.q]) 29))) (by rw [World.size_alloc]; go_grown)).below (w' := (((w.alloc (.cells (List.toArray [.int .i64 p, .int .i64 c, .int .i64 n, .int .i64 b, .int .i64 r, .int .i64 f, .int .i64 g]) 23)).alloc (.cells (List.toArray [.int .i64 a.k, .int .i64 a.i, .int .i64 a.c, .int .i64 a.n, .int .i64 a.s, .int .i64 a.p, .int .i64 a.l, .int .i64 a.u, .int .i64 a.q]) 29)).alloc (.cells (List.toArray [.int .i64 u.o, .int .i64 u.q, .int .i64 u.w, .int .i64 u.n, .int .i64 u.b, .int .i64 u.s]) 31))) (by go_grown)
    exact h
  have bA : Bl (w.heap.size + 1) [.int .i64 a.k, .int .i64 a.i, .int .i64 a.c, .int .i64 a.n, .int .i64 a.s, .int .i64 a.p, .int .i64 a.l, .int .i64 a.u, .int .i64 a.q] W0 := by
    rw [hW0]
    have h := (Bl.new (w.alloc (.cells (List.toArray [.int .i64 p, .int .i64 c, .int .i64 n, .int .i64 b, .int .i64 r, .int .i64 f, .int .i64 g]) 23)) [.int .i64 a.k, .int .i64 a.i, .int .i64 a.c, .int .i64 a.n, .int .i64 a.s, .int .i64 a.p, .int .i64 a.l, .int .i64 a.u, .int .i64 a.q] 29).below (w' := (((w.alloc (.cells (List.toArray [.int .i64 p, .int .i64 c, .int .i64 n, .int .i64 b, .int .i64 r, .int .i64 f, .int .i64 g]) 23)).alloc (.cells (List.toArray [.int .i64 a.k, .int .i64 a.i, .int .i64 a.c, .int .i64 a.n, .int .i64 a.s, .int .i64 a.p, .int .i64 a.l, .int .i64 a.u, .int .i64 a.q]) 29)).alloc (.cells (List.toArray [.int .i64 u.o, .int .i64 u.q, .int .i64 u.w, .int .i64 u.n, .int .i64 u.b, .int .i64 u.s]) 31))) (by go_grown)
    rw [World.size_alloc] at h
    exact h
  have bU : Bl (w.heap.size + 2) [.int .i64 u.o, .int .i64 u.q, .int .i64 u.w, .int .i64 u.n, .int .i64 u.b, .int .i64 u.s] W0 := by
    rw [hW0]
    have h := Bl.new ((w.alloc (.cells (List.toArray [.int .i64 p, .int .i64 c, .int .i64 n, .int .i64 b, .int .i64 r, .int .i64 f, .int .i64 g]) 23)).alloc (.cells (List.toArray [.int .i64 a.k, .int .i64 a.i, .int .i64 a.c, .int .i64 a.n, .int .i64 a.s, .int .i64 a.p, .int .i64 a.l, .int .i64 a.u, .int .i64 a.q]) 29)) [.int .i64 u.o, .int .i64 u.q, .int .i64 u.w, .int .i64 u.n, .int .i64 u.b, .int .i64 u.s] 31
    rw [World.size_alloc, World.size_alloc] at h
    exact h
  have hB0 : Below w.heap.size w W0 := by rw [hW0]; go_grown
  rw [← hW0]
  clear hW0
  refine (HN.out _).mono ?_
  rintro e1 w1 ⟨T, v, rfl, hb1⟩
  have hB1 := Below.step hB0 hb1
  have hB1a := hB1.alloc hB1.size (.cells (List.toArray [.int .i64 0, .int .i64 0, .int .i64 0, .int .i64 0, .int .i64 0, .int .i64 0, .int .i64 0]) 33)
  have HB := Lib.hid hB1a
  clear hb1 hB1 hB0 bC bA bU hB1a
  go_wp2_with fail
  refine (awake_is _ (((HB.out).cell (p := ⟨0, 0, none⟩) hgl).trans HGG.out) (Nat.lt_of_lt_of_le hgl (HB.out).size)).mono ?_
  rintro e9 w9 ⟨rfl, hb9⟩
  go_wp2_with fail
  go_ret
  exact ⟨rfl, Below.step (HB.out) hb9⟩
set_option maxRecDepth 100000 in
set_option maxHeartbeats 8000000 in
theorem lenBad (p c n b r f g : Int) (A : Option Addr) (ln cp : Nat) (gv : Nat → Lim) (mo pt : Int) (a : As) (u : Us) (last : Int) (w : World) (hg : w.cell? ⟨0, 0, none⟩ = some (.iface 95 (.agg #[.pointer (some ⟨1, 35, none⟩)]))) (hgl : 0 < w.heap.size) (hp : 1 ≤ p ∧ p ≤ 6) (hc : 1 ≤ c ∧ c ≤ 4) (hn : 1 ≤ n ∧ n ≤ 3) (hb : 1 ≤ b ∧ b ≤ 4) (hr : 0 ≤ r ∧ r ≤ 4) (hf : 1 ≤ f ∧ f ≤ 4) (hg7 : 1 ≤ g ∧ g ≤ 15) (h : (ln : Int) ≠ p) : Calls Tryd.prog 3 #[.agg #[.int .i64 p, .int .i64 c, .int .i64 n, .int .i64 b, .int .i64 r, .int .i64 f, .int .i64 g], .slice A ln cp, .int .u16 mo, .int .i64 pt, .agg #[.int .i64 a.k, .int .i64 a.i, .int .i64 a.c, .int .i64 a.n, .int .i64 a.s, .int .i64 a.p, .int .i64 a.l, .int .i64 a.u, .int .i64 a.q], .agg #[.int .i64 u.o, .int .i64 u.q, .int .i64 u.w, .int .i64 u.n, .int .i64 u.b, .int .i64 u.s], .int .i64 last] w fun e w' => e = .returned (.bool true) ∧ Below w.heap.size w w' := by
  have dl : ((ln : Int) != p) = true := by simpa using h
  have HN := Lib.hid (fun W => rnew_ok p c n b r f g W hp hc hn hb hr hf hg7)
  clear h
  clear hp hc hn hb hr hf hg7
  have HGG := Lib.hid hg
  clear hg
  go_enter Tryd.func3, Tryd.ntmps3
  go_wp2_with fail
  obtain ⟨W0, hW0⟩ : ∃ W0, W0 = (((w.alloc (.cells (List.toArray [.int .i64 p, .int .i64 c, .int .i64 n, .int .i64 b, .int .i64 r, .int .i64 f, .int .i64 g]) 23)).alloc (.cells (List.toArray [.int .i64 a.k, .int .i64 a.i, .int .i64 a.c, .int .i64 a.n, .int .i64 a.s, .int .i64 a.p, .int .i64 a.l, .int .i64 a.u, .int .i64 a.q]) 29)).alloc (.cells (List.toArray [.int .i64 u.o, .int .i64 u.q, .int .i64 u.w, .int .i64 u.n, .int .i64 u.b, .int .i64 u.s]) 31)) := ⟨_, rfl⟩
  have bC : Bl w.heap.size [.int .i64 p, .int .i64 c, .int .i64 n, .int .i64 b, .int .i64 r, .int .i64 f, .int .i64 g] W0 := by
    rw [hW0]
    have h := ((Bl.new w [.int .i64 p, .int .i64 c, .int .i64 n, .int .i64 b, .int .i64 r, .int .i64 f, .int .i64 g] 23).below (w' := ((w.alloc (.cells (List.toArray [.int .i64 p, .int .i64 c, .int .i64 n, .int .i64 b, .int .i64 r, .int .i64 f, .int .i64 g]) 23)).alloc (.cells (List.toArray [.int .i64 a.k, .int .i64 a.i, .int .i64 a.c, .int .i64 a.n, .int .i64 a.s, .int .i64 a.p, .int .i64 a.l, .int .i64 a.u, .int .i64 a.q]) 29))) (by rw [World.size_alloc]; go_grown)).below (w' := (((w.alloc (.cells (List.toArray [.int .i64 p, .int .i64 c, .int .i64 n, .int .i64 b, .int .i64 r, .int .i64 f, .int .i64 g]) 23)).alloc (.cells (List.toArray [.int .i64 a.k, .int .i64 a.i, .int .i64 a.c, .int .i64 a.n, .int .i64 a.s, .int .i64 a.p, .int .i64 a.l, .int .i64 a.u, .int .i64 a.q]) 29)).alloc (.cells (List.toArray [.int .i64 u.o, .int .i64 u.q, .int .i64 u.w, .int .i64 u.n, .int .i64 u.b, .int .i64 u.s]) 31))) (by go_grown)
    exact h
  have bA : Bl (w.heap.size + 1) [.int .i64 a.k, .int .i64 a.i, .int .i64 a.c, .int .i64 a.n, .int .i64 a.s, .int .i64 a.p, .int .i64 a.l, .int .i64 a.u, .int .i64 a.q] W0 := by
    rw [hW0]
    have h := (Bl.new (w.alloc (.cells (List.toArray [.int .i64 p, .int .i64 c, .int .i64 n, .int .i64 b, .int .i64 r, .int .i64 f, .int .i64 g]) 23)) [.int .i64 a.k, .int .i64 a.i, .int .i64 a.c, .int .i64 a.n, .int .i64 a.s, .int .i64 a.p, .int .i64 a.l, .int .i64 a.u, .int .i64 a.q] 29).below (w' := (((w.alloc (.cells (List.toArray [.int .i64 p, .int .i64 c, .int .i64 n, .int .i64 b, .int .i64 r, .int .i64 f, .int .i64 g]) 23)).alloc (.cells (List.toArray [.int .i64 a.k, .int .i64 a.i, .int .i64 a.c, .int .i64 a.n, .int .i64 a.s, .int .i64 a.p, .int .i64 a.l, .int .i64 a.u, .int .i64 a.q]) 29)).alloc (.cells (List.toArray [.int .i64 u.o, .int .i64 u.q, .int .i64 u.w, .int .i64 u.n, .int .i64 u.b, .int .i64 u.s]) 31))) (by go_grown)
    rw [World.size_alloc] at h
    exact h
  have bU : Bl (w.heap.size + 2) [.int .i64 u.o, .int .i64 u.q, .int .i64 u.w, .int .i64 u.n, .int .i64 u.b, .int .i64 u.s] W0 := by
    rw [hW0]
    have h := Bl.new ((w.alloc (.cells (List.toArray [.int .i64 p, .int .i64 c, .int .i64 n, .int .i64 b, .int .i64 r, .int .i64 f, .int .i64 g]) 23)).alloc (.cells (List.toArray [.int .i64 a.k, .int .i64 a.i, .int .i64 a.c, .int .i64 a.n, .int .i64 a.s, .int .i64 a.p, .int .i64 a.l, .int .i64 a.u, .int .i64 a.q]) 29)) [.int .i64 u.o, .int .i64 u.q, .int .i64 u.w, .int .i64 u.n, .int .i64 u.b, .int .i64 u.s] 31
    rw [World.size_alloc, World.size_alloc] at h
    exact h
  have hB0 : Below w.heap.size w W0 := by rw [hW0]; go_grown
  rw [← hW0]
  clear hW0
  refine (HN.out _).mono ?_
  rintro e1 w1 ⟨rfl, hb1⟩
  have hD1 : Below w1.heap.size w1 (w1.alloc (.cells (List.toArray [.int .i64 p, .int .i64 c, .int .i64 n, .int .i64 b, .int .i64 r, .int .i64 f, .int .i64 g]) 33)) := by go_grown
  have hB1a := Below.step (Below.step hB0 hb1) hD1
  have bC1 := (bC.below hb1).below hD1
  have bA1 := (bA.below hb1).below hD1
  have bU1 := (bU.below hb1).below hD1
  have bR1 := Bl.new w1 [.int .i64 p, .int .i64 c, .int .i64 n, .int .i64 b, .int .i64 r, .int .i64 f, .int .i64 g] 33
  have HB := Lib.hid hB1a
  have c0 : (w1.alloc (.cells (List.toArray [.int .i64 p, .int .i64 c, .int .i64 n, .int .i64 b, .int .i64 r, .int .i64 f, .int .i64 g]) 33)).cell? ⟨w.heap.size, 0, none⟩ = some (.int .i64 p) := bC1.cell 0 _ rfl
  have HC1 := Lib.hid bC1
  have HA1 := Lib.hid bA1
  have HU1 := Lib.hid bU1
  have HR1 := Lib.hid bR1
  clear hb1 hB0 bC bA bU hB1a hD1 bC1 bA1 bU1 bR1
  have hcl := HC1.out.lt
  clear HC1 HA1 HU1 HR1
  go_wp2_with fail
  refine (awake_is _ (((HB.out).cell (p := ⟨0, 0, none⟩) hgl).trans HGG.out) (Nat.lt_of_lt_of_le hgl (HB.out).size)).mono ?_
  rintro e9 w9 ⟨rfl, hb9⟩
  go_wp2_with fail
  go_ret
  exact ⟨rfl, Below.step (HB.out) hb9⟩
set_option maxRecDepth 100000 in
set_option maxHeartbeats 8000000 in
theorem wrongBad (p c n b r f g : Int) (A : Option Addr) (ln cp : Nat) (gv : Nat → Lim) (mo pt : Int) (a : As) (u : Us) (last : Int) (w : World) (hg : w.cell? ⟨0, 0, none⟩ = some (.iface 95 (.agg #[.pointer (some ⟨1, 35, none⟩)]))) (hgl : 0 < w.heap.size) (hp : 1 ≤ p ∧ p ≤ 6) (hc : 1 ≤ c ∧ c ≤ 4) (hn : 1 ≤ n ∧ n ≤ 3) (hb : 1 ≤ b ∧ b ≤ 4) (hr : 0 ≤ r ∧ r ≤ 4) (hf : 1 ≤ f ∧ f ≤ 4) (hg7 : 1 ≤ g ∧ g ≤ 15) (hl : (ln : Int) = p) (hE : LimsAt A ln gv w) (h : ¬ ∀ i, i < ln → Lok (gv i)) : Calls Tryd.prog 3 #[.agg #[.int .i64 p, .int .i64 c, .int .i64 n, .int .i64 b, .int .i64 r, .int .i64 f, .int .i64 g], .slice A ln cp, .int .u16 mo, .int .i64 pt, .agg #[.int .i64 a.k, .int .i64 a.i, .int .i64 a.c, .int .i64 a.n, .int .i64 a.s, .int .i64 a.p, .int .i64 a.l, .int .i64 a.u, .int .i64 a.q], .agg #[.int .i64 u.o, .int .i64 u.q, .int .i64 u.w, .int .i64 u.n, .int .i64 u.b, .int .i64 u.s], .int .i64 last] w fun e w' => e = .returned (.bool true) ∧ Below w.heap.size w w' := by
  have HH := Lib.hid h
  have HN := Lib.hid (fun W => rnew_ok p c n b r f g W hp hc hn hb hr hf hg7)
  have HE := Lib.hid hE
  have dl : ((ln : Int) != p) = false := by simp [hl]
  have l0 : (0 : Int) ≤ (ln : Int) := by omega
  have l1 : (ln : Int) ≤ 6 := by omega
  have HL := Lib.hid hl
  clear hE hl
  clear h
  clear hp hc hn hb hr hf hg7
  have HGG := Lib.hid hg
  clear hg
  go_enter Tryd.func3, Tryd.ntmps3
  go_wp2_with fail
  obtain ⟨W0, hW0⟩ : ∃ W0, W0 = (((w.alloc (.cells (List.toArray [.int .i64 p, .int .i64 c, .int .i64 n, .int .i64 b, .int .i64 r, .int .i64 f, .int .i64 g]) 23)).alloc (.cells (List.toArray [.int .i64 a.k, .int .i64 a.i, .int .i64 a.c, .int .i64 a.n, .int .i64 a.s, .int .i64 a.p, .int .i64 a.l, .int .i64 a.u, .int .i64 a.q]) 29)).alloc (.cells (List.toArray [.int .i64 u.o, .int .i64 u.q, .int .i64 u.w, .int .i64 u.n, .int .i64 u.b, .int .i64 u.s]) 31)) := ⟨_, rfl⟩
  have bC : Bl w.heap.size [.int .i64 p, .int .i64 c, .int .i64 n, .int .i64 b, .int .i64 r, .int .i64 f, .int .i64 g] W0 := by
    rw [hW0]
    have h := ((Bl.new w [.int .i64 p, .int .i64 c, .int .i64 n, .int .i64 b, .int .i64 r, .int .i64 f, .int .i64 g] 23).below (w' := ((w.alloc (.cells (List.toArray [.int .i64 p, .int .i64 c, .int .i64 n, .int .i64 b, .int .i64 r, .int .i64 f, .int .i64 g]) 23)).alloc (.cells (List.toArray [.int .i64 a.k, .int .i64 a.i, .int .i64 a.c, .int .i64 a.n, .int .i64 a.s, .int .i64 a.p, .int .i64 a.l, .int .i64 a.u, .int .i64 a.q]) 29))) (by rw [World.size_alloc]; go_grown)).below (w' := (((w.alloc (.cells (List.toArray [.int .i64 p, .int .i64 c, .int .i64 n, .int .i64 b, .int .i64 r, .int .i64 f, .int .i64 g]) 23)).alloc (.cells (List.toArray [.int .i64 a.k, .int .i64 a.i, .int .i64 a.c, .int .i64 a.n, .int .i64 a.s, .int .i64 a.p, .int .i64 a.l, .int .i64 a.u, .int .i64 a.q]) 29)).alloc (.cells (List.toArray [.int .i64 u.o, .int .i64 u.q, .int .i64 u.w, .int .i64 u.n, .int .i64 u.b, .int .i64 u.s]) 31))) (by go_grown)
    exact h
  have bA : Bl (w.heap.size + 1) [.int .i64 a.k, .int .i64 a.i, .int .i64 a.c, .int .i64 a.n, .int .i64 a.s, .int .i64 a.p, .int .i64 a.l, .int .i64 a.u, .int .i64 a.q] W0 := by
    rw [hW0]
    have h := (Bl.new (w.alloc (.cells (List.toArray [.int .i64 p, .int .i64 c, .int .i64 n, .int .i64 b, .int .i64 r, .int .i64 f, .int .i64 g]) 23)) [.int .i64 a.k, .int .i64 a.i, .int .i64 a.c, .int .i64 a.n, .int .i64 a.s, .int .i64 a.p, .int .i64 a.l, .int .i64 a.u, .int .i64 a.q] 29).below (w' := (((w.alloc (.cells (List.toArray [.int .i64 p, .int .i64 c, .int .i64 n, .int .i64 b, .int .i64 r, .int .i64 f, .int .i64 g]) 23)).alloc (.cells (List.toArray [.int .i64 a.k, .int .i64 a.i, .int .i64 a.c, .int .i64 a.n, .int .i64 a.s, .int .i64 a.p, .int .i64 a.l, .int .i64 a.u, .int .i64 a.q]) 29)).alloc (.cells (List.toArray [.int .i64 u.o, .int .i64 u.q, .int .i64 u.w, .int .i64 u.n, .int .i64 u.b, .int .i64 u.s]) 31))) (by go_grown)
    rw [World.size_alloc] at h
    exact h
  have bU : Bl (w.heap.size + 2) [.int .i64 u.o, .int .i64 u.q, .int .i64 u.w, .int .i64 u.n, .int .i64 u.b, .int .i64 u.s] W0 := by
    rw [hW0]
    have h := Bl.new ((w.alloc (.cells (List.toArray [.int .i64 p, .int .i64 c, .int .i64 n, .int .i64 b, .int .i64 r, .int .i64 f, .int .i64 g]) 23)).alloc (.cells (List.toArray [.int .i64 a.k, .int .i64 a.i, .int .i64 a.c, .int .i64 a.n, .int .i64 a.s, .int .i64 a.p, .int .i64 a.l, .int .i64 a.u, .int .i64 a.q]) 29)) [.int .i64 u.o, .int .i64 u.q, .int .i64 u.w, .int .i64 u.n, .int .i64 u.b, .int .i64 u.s] 31
    rw [World.size_alloc, World.size_alloc] at h
    exact h
  have hB0 : Below w.heap.size w W0 := by rw [hW0]; go_grown
  rw [← hW0]
  clear hW0
  refine (HN.out _).mono ?_
  rintro e1 w1 ⟨rfl, hb1⟩
  have hD1 : Below w1.heap.size w1 (w1.alloc (.cells (List.toArray [.int .i64 p, .int .i64 c, .int .i64 n, .int .i64 b, .int .i64 r, .int .i64 f, .int .i64 g]) 33)) := by go_grown
  have hB1a := Below.step (Below.step hB0 hb1) hD1
  have bC1 := (bC.below hb1).below hD1
  have bA1 := (bA.below hb1).below hD1
  have bU1 := (bU.below hb1).below hD1
  have bR1 := Bl.new w1 [.int .i64 p, .int .i64 c, .int .i64 n, .int .i64 b, .int .i64 r, .int .i64 f, .int .i64 g] 33
  have HB := Lib.hid hB1a
  have c0 : (w1.alloc (.cells (List.toArray [.int .i64 p, .int .i64 c, .int .i64 n, .int .i64 b, .int .i64 r, .int .i64 f, .int .i64 g]) 33)).cell? ⟨w.heap.size, 0, none⟩ = some (.int .i64 p) := bC1.cell 0 _ rfl
  have HC1 := Lib.hid bC1
  have HA1 := Lib.hid bA1
  have HU1 := Lib.hid bU1
  have HR1 := Lib.hid bR1
  clear hb1 hB0 bC bA bU hB1a hD1 bC1 bA1 bU1 bR1
  have hcl := HC1.out.lt
  clear HA1 HU1 HR1
  have HWR := Lib.hid (wrong_is A ln cp gv (by omega) (w1.alloc (.cells (List.toArray [.int .i64 p, .int .i64 c, .int .i64 n, .int .i64 b, .int .i64 r, .int .i64 f, .int .i64 g]) 33)) (HE.out.below HB.out))
  go_wp2_with fail
  refine HWR.out.mono ?_
  rintro e2 w2 ⟨k, rfl, hb2, hk1, hk2⟩
  have dk : decide (0 ≤ k) = true := decide_eq_true (hk2 HH.out)
  have HB2 := Lib.hid (Below.step HB.out hb2)
  have c0 : w2.cell? ⟨w.heap.size, 0, none⟩ = some (.int .i64 p) := (HC1.out.below hb2).cell 0 _ rfl
  clear hk1 hk2 hb2
  go_wp2_with fail
  refine (awake_is _ (((HB2.out).cell (p := ⟨0, 0, none⟩) hgl).trans HGG.out) (Nat.lt_of_lt_of_le hgl (HB2.out).size)).mono ?_
  rintro e9 w9 ⟨rfl, hb9⟩
  go_wp2_with fail
  go_ret
  exact ⟨rfl, Below.step (HB2.out) hb9⟩
set_option maxRecDepth 100000 in
set_option maxHeartbeats 8000000 in
theorem ptNeg (p c n b r f g : Int) (A : Option Addr) (ln cp : Nat) (gv : Nat → Lim) (mo pt : Int) (a : As) (u : Us) (last : Int) (w : World) (hg : w.cell? ⟨0, 0, none⟩ = some (.iface 95 (.agg #[.pointer (some ⟨1, 35, none⟩)]))) (hgl : 0 < w.heap.size) (hp : 1 ≤ p ∧ p ≤ 6) (hc : 1 ≤ c ∧ c ≤ 4) (hn : 1 ≤ n ∧ n ≤ 3) (hb : 1 ≤ b ∧ b ≤ 4) (hr : 0 ≤ r ∧ r ≤ 4) (hf : 1 ≤ f ∧ f ≤ 4) (hg7 : 1 ≤ g ∧ g ≤ 15) (hl : (ln : Int) = p) (hE : LimsAt A ln gv w) (h : ∀ i, i < ln → Lok (gv i)) (hpt : pt < 0) : Calls Tryd.prog 3 #[.agg #[.int .i64 p, .int .i64 c, .int .i64 n, .int .i64 b, .int .i64 r, .int .i64 f, .int .i64 g], .slice A ln cp, .int .u16 mo, .int .i64 pt, .agg #[.int .i64 a.k, .int .i64 a.i, .int .i64 a.c, .int .i64 a.n, .int .i64 a.s, .int .i64 a.p, .int .i64 a.l, .int .i64 a.u, .int .i64 a.q], .agg #[.int .i64 u.o, .int .i64 u.q, .int .i64 u.w, .int .i64 u.n, .int .i64 u.b, .int .i64 u.s], .int .i64 last] w fun e w' => e = .returned (.bool true) ∧ Below w.heap.size w w' := by
  have HH := Lib.hid h
  have dp : decide (pt < 0) = true := decide_eq_true hpt
  clear hpt
  have HN := Lib.hid (fun W => rnew_ok p c n b r f g W hp hc hn hb hr hf hg7)
  have HE := Lib.hid hE
  have dl : ((ln : Int) != p) = false := by simp [hl]
  have l0 : (0 : Int) ≤ (ln : Int) := by omega
  have l1 : (ln : Int) ≤ 6 := by omega
  have HL := Lib.hid hl
  clear hE hl
  clear h
  clear hp hc hn hb hr hf hg7
  have HGG := Lib.hid hg
  clear hg
  go_enter Tryd.func3, Tryd.ntmps3
  go_wp2_with fail
  obtain ⟨W0, hW0⟩ : ∃ W0, W0 = (((w.alloc (.cells (List.toArray [.int .i64 p, .int .i64 c, .int .i64 n, .int .i64 b, .int .i64 r, .int .i64 f, .int .i64 g]) 23)).alloc (.cells (List.toArray [.int .i64 a.k, .int .i64 a.i, .int .i64 a.c, .int .i64 a.n, .int .i64 a.s, .int .i64 a.p, .int .i64 a.l, .int .i64 a.u, .int .i64 a.q]) 29)).alloc (.cells (List.toArray [.int .i64 u.o, .int .i64 u.q, .int .i64 u.w, .int .i64 u.n, .int .i64 u.b, .int .i64 u.s]) 31)) := ⟨_, rfl⟩
  have bC : Bl w.heap.size [.int .i64 p, .int .i64 c, .int .i64 n, .int .i64 b, .int .i64 r, .int .i64 f, .int .i64 g] W0 := by
    rw [hW0]
    have h := ((Bl.new w [.int .i64 p, .int .i64 c, .int .i64 n, .int .i64 b, .int .i64 r, .int .i64 f, .int .i64 g] 23).below (w' := ((w.alloc (.cells (List.toArray [.int .i64 p, .int .i64 c, .int .i64 n, .int .i64 b, .int .i64 r, .int .i64 f, .int .i64 g]) 23)).alloc (.cells (List.toArray [.int .i64 a.k, .int .i64 a.i, .int .i64 a.c, .int .i64 a.n, .int .i64 a.s, .int .i64 a.p, .int .i64 a.l, .int .i64 a.u, .int .i64 a.q]) 29))) (by rw [World.size_alloc]; go_grown)).below (w' := (((w.alloc (.cells (List.toArray [.int .i64 p, .int .i64 c, .int .i64 n, .int .i64 b, .int .i64 r, .int .i64 f, .int .i64 g]) 23)).alloc (.cells (List.toArray [.int .i64 a.k, .int .i64 a.i, .int .i64 a.c, .int .i64 a.n, .int .i64 a.s, .int .i64 a.p, .int .i64 a.l, .int .i64 a.u, .int .i64 a.q]) 29)).alloc (.cells (List.toArray [.int .i64 u.o, .int .i64 u.q, .int .i64 u.w, .int .i64 u.n, .int .i64 u.b, .int .i64 u.s]) 31))) (by go_grown)
    exact h
  have bA : Bl (w.heap.size + 1) [.int .i64 a.k, .int .i64 a.i, .int .i64 a.c, .int .i64 a.n, .int .i64 a.s, .int .i64 a.p, .int .i64 a.l, .int .i64 a.u, .int .i64 a.q] W0 := by
    rw [hW0]
    have h := (Bl.new (w.alloc (.cells (List.toArray [.int .i64 p, .int .i64 c, .int .i64 n, .int .i64 b, .int .i64 r, .int .i64 f, .int .i64 g]) 23)) [.int .i64 a.k, .int .i64 a.i, .int .i64 a.c, .int .i64 a.n, .int .i64 a.s, .int .i64 a.p, .int .i64 a.l, .int .i64 a.u, .int .i64 a.q] 29).below (w' := (((w.alloc (.cells (List.toArray [.int .i64 p, .int .i64 c, .int .i64 n, .int .i64 b, .int .i64 r, .int .i64 f, .int .i64 g]) 23)).alloc (.cells (List.toArray [.int .i64 a.k, .int .i64 a.i, .int .i64 a.c, .int .i64 a.n, .int .i64 a.s, .int .i64 a.p, .int .i64 a.l, .int .i64 a.u, .int .i64 a.q]) 29)).alloc (.cells (List.toArray [.int .i64 u.o, .int .i64 u.q, .int .i64 u.w, .int .i64 u.n, .int .i64 u.b, .int .i64 u.s]) 31))) (by go_grown)
    rw [World.size_alloc] at h
    exact h
  have bU : Bl (w.heap.size + 2) [.int .i64 u.o, .int .i64 u.q, .int .i64 u.w, .int .i64 u.n, .int .i64 u.b, .int .i64 u.s] W0 := by
    rw [hW0]
    have h := Bl.new ((w.alloc (.cells (List.toArray [.int .i64 p, .int .i64 c, .int .i64 n, .int .i64 b, .int .i64 r, .int .i64 f, .int .i64 g]) 23)).alloc (.cells (List.toArray [.int .i64 a.k, .int .i64 a.i, .int .i64 a.c, .int .i64 a.n, .int .i64 a.s, .int .i64 a.p, .int .i64 a.l, .int .i64 a.u, .int .i64 a.q]) 29)) [.int .i64 u.o, .int .i64 u.q, .int .i64 u.w, .int .i64 u.n, .int .i64 u.b, .int .i64 u.s] 31
    rw [World.size_alloc, World.size_alloc] at h
    exact h
  have hB0 : Below w.heap.size w W0 := by rw [hW0]; go_grown
  rw [← hW0]
  clear hW0
  refine (HN.out _).mono ?_
  rintro e1 w1 ⟨rfl, hb1⟩
  have hD1 : Below w1.heap.size w1 (w1.alloc (.cells (List.toArray [.int .i64 p, .int .i64 c, .int .i64 n, .int .i64 b, .int .i64 r, .int .i64 f, .int .i64 g]) 33)) := by go_grown
  have hB1a := Below.step (Below.step hB0 hb1) hD1
  have bC1 := (bC.below hb1).below hD1
  have bA1 := (bA.below hb1).below hD1
  have bU1 := (bU.below hb1).below hD1
  have bR1 := Bl.new w1 [.int .i64 p, .int .i64 c, .int .i64 n, .int .i64 b, .int .i64 r, .int .i64 f, .int .i64 g] 33
  have HB := Lib.hid hB1a
  have c0 : (w1.alloc (.cells (List.toArray [.int .i64 p, .int .i64 c, .int .i64 n, .int .i64 b, .int .i64 r, .int .i64 f, .int .i64 g]) 33)).cell? ⟨w.heap.size, 0, none⟩ = some (.int .i64 p) := bC1.cell 0 _ rfl
  have HC1 := Lib.hid bC1
  have HA1 := Lib.hid bA1
  have HU1 := Lib.hid bU1
  have HR1 := Lib.hid bR1
  clear hb1 hB0 bC bA bU hB1a hD1 bC1 bA1 bU1 bR1
  have hcl := HC1.out.lt
  have HWR := Lib.hid (wrong_is A ln cp gv (by omega) (w1.alloc (.cells (List.toArray [.int .i64 p, .int .i64 c, .int .i64 n, .int .i64 b, .int .i64 r, .int .i64 f, .int .i64 g]) 33)) (HE.out.below HB.out))
  go_wp2_with fail
  refine HWR.out.mono ?_
  rintro e2 w2 ⟨k, rfl, hb2, hk1, hk2⟩
  obtain rfl := hk1 HH.out
  have HB2 := Lib.hid (Below.step HB.out hb2)
  have bC2 := HC1.out.below hb2
  have hcl2 := bC2.lt
  have c0 : w2.cell? ⟨w.heap.size, 0, none⟩ = some (.int .i64 p) := bC2.cell 0 _ rfl
  have HC2 := Lib.hid bC2
  have HA2 := Lib.hid (HA1.out.below hb2)
  have HU2 := Lib.hid (HU1.out.below hb2)
  have HR2 := Lib.hid (HR1.out.below hb2)
  clear hk1 hk2 hb2 bC2 HC1 HA1 HU1 HR1 HWR
  clear HA2 HU2 HR2 HC2
  go_wp2_with fail
  refine (awake_is _ (((HB2.out).cell (p := ⟨0, 0, none⟩) hgl).trans HGG.out) (Nat.lt_of_lt_of_le hgl (HB2.out).size)).mono ?_
  rintro e9 w9 ⟨rfl, hb9⟩
  go_wp2_with fail
  go_ret
  exact ⟨rfl, Below.step (HB2.out) hb9⟩
set_option maxRecDepth 100000 in
set_option maxHeartbeats 8000000 in
theorem ptBig (p c n b r f g : Int) (A : Option Addr) (ln cp : Nat) (gv : Nat → Lim) (mo pt : Int) (a : As) (u : Us) (last : Int) (w : World) (hg : w.cell? ⟨0, 0, none⟩ = some (.iface 95 (.agg #[.pointer (some ⟨1, 35, none⟩)]))) (hgl : 0 < w.heap.size) (hp : 1 ≤ p ∧ p ≤ 6) (hc : 1 ≤ c ∧ c ≤ 4) (hn : 1 ≤ n ∧ n ≤ 3) (hb : 1 ≤ b ∧ b ≤ 4) (hr : 0 ≤ r ∧ r ≤ 4) (hf : 1 ≤ f ∧ f ≤ 4) (hg7 : 1 ≤ g ∧ g ≤ 15) (hl : (ln : Int) = p) (hE : LimsAt A ln gv w) (h : ∀ i, i < ln → Lok (gv i)) (hpt : p ≤ pt) : Calls Tryd.prog 3 #[.agg #[.int .i64 p, .int .i64 c, .int .i64 n, .int .i64 b, .int .i64 r, .int .i64 f, .int .i64 g], .slice A ln cp, .int .u16 mo, .int .i64 pt, .agg #[.int .i64 a.k, .int .i64 a.i, .int .i64 a.c, .int .i64 a.n, .int .i64 a.s, .int .i64 a.p, .int .i64 a.l, .int .i64 a.u, .int .i64 a.q], .agg #[.int .i64 u.o, .int .i64 u.q, .int .i64 u.w, .int .i64 u.n, .int .i64 u.b, .int .i64 u.s], .int .i64 last] w fun e w' => e = .returned (.bool true) ∧ Below w.heap.size w w' := by
  have HH := Lib.hid h
  have dp : decide (pt < 0) = false := decide_eq_false (by omega)
  have dq : decide (p ≤ pt) = true := decide_eq_true hpt
  clear hpt
  have HN := Lib.hid (fun W => rnew_ok p c n b r f g W hp hc hn hb hr hf hg7)
  have HE := Lib.hid hE
  have dl : ((ln : Int) != p) = false := by simp [hl]
  have l0 : (0 : Int) ≤ (ln : Int) := by omega
  have l1 : (ln : Int) ≤ 6 := by omega
  have HL := Lib.hid hl
  clear hE hl
  clear h
  clear hp hc hn hb hr hf hg7
  have HGG := Lib.hid hg
  clear hg
  go_enter Tryd.func3, Tryd.ntmps3
  go_wp2_with fail
  obtain ⟨W0, hW0⟩ : ∃ W0, W0 = (((w.alloc (.cells (List.toArray [.int .i64 p, .int .i64 c, .int .i64 n, .int .i64 b, .int .i64 r, .int .i64 f, .int .i64 g]) 23)).alloc (.cells (List.toArray [.int .i64 a.k, .int .i64 a.i, .int .i64 a.c, .int .i64 a.n, .int .i64 a.s, .int .i64 a.p, .int .i64 a.l, .int .i64 a.u, .int .i64 a.q]) 29)).alloc (.cells (List.toArray [.int .i64 u.o, .int .i64 u.q, .int .i64 u.w, .int .i64 u.n, .int .i64 u.b, .int .i64 u.s]) 31)) := ⟨_, rfl⟩
  have bC : Bl w.heap.size [.int .i64 p, .int .i64 c, .int .i64 n, .int .i64 b, .int .i64 r, .int .i64 f, .int .i64 g] W0 := by
    rw [hW0]
    have h := ((Bl.new w [.int .i64 p, .int .i64 c, .int .i64 n, .int .i64 b, .int .i64 r, .int .i64 f, .int .i64 g] 23).below (w' := ((w.alloc (.cells (List.toArray [.int .i64 p, .int .i64 c, .int .i64 n, .int .i64 b, .int .i64 r, .int .i64 f, .int .i64 g]) 23)).alloc (.cells (List.toArray [.int .i64 a.k, .int .i64 a.i, .int .i64 a.c, .int .i64 a.n, .int .i64 a.s, .int .i64 a.p, .int .i64 a.l, .int .i64 a.u, .int .i64 a.q]) 29))) (by rw [World.size_alloc]; go_grown)).below (w' := (((w.alloc (.cells (List.toArray [.int .i64 p, .int .i64 c, .int .i64 n, .int .i64 b, .int .i64 r, .int .i64 f, .int .i64 g]) 23)).alloc (.cells (List.toArray [.int .i64 a.k, .int .i64 a.i, .int .i64 a.c, .int .i64 a.n, .int .i64 a.s, .int .i64 a.p, .int .i64 a.l, .int .i64 a.u, .int .i64 a.q]) 29)).alloc (.cells (List.toArray [.int .i64 u.o, .int .i64 u.q, .int .i64 u.w, .int .i64 u.n, .int .i64 u.b, .int .i64 u.s]) 31))) (by go_grown)
    exact h
  have bA : Bl (w.heap.size + 1) [.int .i64 a.k, .int .i64 a.i, .int .i64 a.c, .int .i64 a.n, .int .i64 a.s, .int .i64 a.p, .int .i64 a.l, .int .i64 a.u, .int .i64 a.q] W0 := by
    rw [hW0]
    have h := (Bl.new (w.alloc (.cells (List.toArray [.int .i64 p, .int .i64 c, .int .i64 n, .int .i64 b, .int .i64 r, .int .i64 f, .int .i64 g]) 23)) [.int .i64 a.k, .int .i64 a.i, .int .i64 a.c, .int .i64 a.n, .int .i64 a.s, .int .i64 a.p, .int .i64 a.l, .int .i64 a.u, .int .i64 a.q] 29).below (w' := (((w.alloc (.cells (List.toArray [.int .i64 p, .int .i64 c, .int .i64 n, .int .i64 b, .int .i64 r, .int .i64 f, .int .i64 g]) 23)).alloc (.cells (List.toArray [.int .i64 a.k, .int .i64 a.i, .int .i64 a.c, .int .i64 a.n, .int .i64 a.s, .int .i64 a.p, .int .i64 a.l, .int .i64 a.u, .int .i64 a.q]) 29)).alloc (.cells (List.toArray [.int .i64 u.o, .int .i64 u.q, .int .i64 u.w, .int .i64 u.n, .int .i64 u.b, .int .i64 u.s]) 31))) (by go_grown)
    rw [World.size_alloc] at h
    exact h
  have bU : Bl (w.heap.size + 2) [.int .i64 u.o, .int .i64 u.q, .int .i64 u.w, .int .i64 u.n, .int .i64 u.b, .int .i64 u.s] W0 := by
    rw [hW0]
    have h := Bl.new ((w.alloc (.cells (List.toArray [.int .i64 p, .int .i64 c, .int .i64 n, .int .i64 b, .int .i64 r, .int .i64 f, .int .i64 g]) 23)).alloc (.cells (List.toArray [.int .i64 a.k, .int .i64 a.i, .int .i64 a.c, .int .i64 a.n, .int .i64 a.s, .int .i64 a.p, .int .i64 a.l, .int .i64 a.u, .int .i64 a.q]) 29)) [.int .i64 u.o, .int .i64 u.q, .int .i64 u.w, .int .i64 u.n, .int .i64 u.b, .int .i64 u.s] 31
    rw [World.size_alloc, World.size_alloc] at h
    exact h
  have hB0 : Below w.heap.size w W0 := by rw [hW0]; go_grown
  rw [← hW0]
  clear hW0
  refine (HN.out _).mono ?_
  rintro e1 w1 ⟨rfl, hb1⟩
  have hD1 : Below w1.heap.size w1 (w1.alloc (.cells (List.toArray [.int .i64 p, .int .i64 c, .int .i64 n, .int .i64 b, .int .i64 r, .int .i64 f, .int .i64 g]) 33)) := by go_grown
  have hB1a := Below.step (Below.step hB0 hb1) hD1
  have bC1 := (bC.below hb1).below hD1
  have bA1 := (bA.below hb1).below hD1
  have bU1 := (bU.below hb1).below hD1
  have bR1 := Bl.new w1 [.int .i64 p, .int .i64 c, .int .i64 n, .int .i64 b, .int .i64 r, .int .i64 f, .int .i64 g] 33
  have HB := Lib.hid hB1a
  have c0 : (w1.alloc (.cells (List.toArray [.int .i64 p, .int .i64 c, .int .i64 n, .int .i64 b, .int .i64 r, .int .i64 f, .int .i64 g]) 33)).cell? ⟨w.heap.size, 0, none⟩ = some (.int .i64 p) := bC1.cell 0 _ rfl
  have HC1 := Lib.hid bC1
  have HA1 := Lib.hid bA1
  have HU1 := Lib.hid bU1
  have HR1 := Lib.hid bR1
  clear hb1 hB0 bC bA bU hB1a hD1 bC1 bA1 bU1 bR1
  have hcl := HC1.out.lt
  have HWR := Lib.hid (wrong_is A ln cp gv (by omega) (w1.alloc (.cells (List.toArray [.int .i64 p, .int .i64 c, .int .i64 n, .int .i64 b, .int .i64 r, .int .i64 f, .int .i64 g]) 33)) (HE.out.below HB.out))
  go_wp2_with fail
  refine HWR.out.mono ?_
  rintro e2 w2 ⟨k, rfl, hb2, hk1, hk2⟩
  obtain rfl := hk1 HH.out
  have HB2 := Lib.hid (Below.step HB.out hb2)
  have bC2 := HC1.out.below hb2
  have hcl2 := bC2.lt
  have c0 : w2.cell? ⟨w.heap.size, 0, none⟩ = some (.int .i64 p) := bC2.cell 0 _ rfl
  have HC2 := Lib.hid bC2
  have HA2 := Lib.hid (HA1.out.below hb2)
  have HU2 := Lib.hid (HU1.out.below hb2)
  have HR2 := Lib.hid (HR1.out.below hb2)
  clear hk1 hk2 hb2 bC2 HC1 HA1 HU1 HR1 HWR
  clear HA2 HU2 HR2 HC2
  go_wp2_with fail
  refine (awake_is _ (((HB2.out).cell (p := ⟨0, 0, none⟩) hgl).trans HGG.out) (Nat.lt_of_lt_of_le hgl (HB2.out).size)).mono ?_
  rintro e9 w9 ⟨rfl, hb9⟩
  go_wp2_with fail
  go_ret
  exact ⟨rfl, Below.step (HB2.out) hb9⟩
set_option maxRecDepth 100000 in
set_option maxHeartbeats 8000000 in
theorem notSmall (p c n b r f g : Int) (A : Option Addr) (ln cp : Nat) (gv : Nat → Lim) (mo pt : Int) (a : As) (u : Us) (last : Int) (w : World) (hg : w.cell? ⟨0, 0, none⟩ = some (.iface 95 (.agg #[.pointer (some ⟨1, 35, none⟩)]))) (hgl : 0 < w.heap.size) (hp : 1 ≤ p ∧ p ≤ 6) (hc : 1 ≤ c ∧ c ≤ 4) (hn : 1 ≤ n ∧ n ≤ 3) (hb : 1 ≤ b ∧ b ≤ 4) (hr : 0 ≤ r ∧ r ≤ 4) (hf : 1 ≤ f ∧ f ≤ 4) (hg7 : 1 ≤ g ∧ g ≤ 15) (hl : (ln : Int) = p) (hE : LimsAt A ln gv w) (h : ∀ i, i < ln → Lok (gv i)) (hpt : 0 ≤ pt ∧ pt < p) (hs : ([a.q, a.p, u.o, u.q, u.w, u.n, u.b, u.s, last] : List Int).all smb = false) : Calls Tryd.prog 3 #[.agg #[.int .i64 p, .int .i64 c, .int .i64 n, .int .i64 b, .int .i64 r, .int .i64 f, .int .i64 g], .slice A ln cp, .int .u16 mo, .int .i64 pt, .agg #[.int .i64 a.k, .int .i64 a.i, .int .i64 a.c, .int .i64 a.n, .int .i64 a.s, .int .i64 a.p, .int .i64 a.l, .int .i64 a.u, .int .i64 a.q], .agg #[.int .i64 u.o, .int .i64 u.q, .int .i64 u.w, .int .i64 u.n, .int .i64 u.b, .int .i64 u.s], .int .i64 last] w fun e w' => e = .returned (.bool true) ∧ Below w.heap.size w w' := by
  have HH := Lib.hid h
  have HS := Lib.hid hs
  have dp : decide (pt < 0) = false := decide_eq_false (by omega)
  have dq : decide (p ≤ pt) = false := decide_eq_false (by omega)
  clear hpt hs
  have HN := Lib.hid (fun W => rnew_ok p c n b r f g W hp hc hn hb hr hf hg7)
  have HE := Lib.hid hE
  have dl : ((ln : Int) != p) = false := by simp [hl]
  have l0 : (0 : Int) ≤ (ln : Int) := by omega
  have l1 : (ln : Int) ≤ 6 := by omega
  have HL := Lib.hid hl
  clear hE hl
  clear h
  clear hp hc hn hb hr hf hg7
  have HGG := Lib.hid hg
  clear hg
  go_enter Tryd.func3, Tryd.ntmps3
  go_wp2_with fail
  obtain ⟨W0, hW0⟩ : ∃ W0, W0 = (((w.alloc (.cells (List.toArray [.int .i64 p, .int .i64 c, .int .i64 n, .int .i64 b, .int .i64 r, .int .i64 f, .int .i64 g]) 23)).alloc (.cells (List.toArray [.int .i64 a.k, .int .i64 a.i, .int .i64 a.c, .int .i64 a.n, .int .i64 a.s, .int .i64 a.p, .int .i64 a.l, .int .i64 a.u, .int .i64 a.q]) 29)).alloc (.cells (List.toArray [.int .i64 u.o, .int .i64 u.q, .int .i64 u.w, .int .i64 u.n, .int .i64 u.b, .int .i64 u.s]) 31)) := ⟨_, rfl⟩
  have bC : Bl w.heap.size [.int .i64 p, .int .i64 c, .int .i64 n, .int .i64 b, .int .i64 r, .int .i64 f, .int .i64 g] W0 := by
    rw [hW0]
    have h := ((Bl.new w [.int .i64 p, .int .i64 c, .int .i64 n, .int .i64 b, .int .i64 r, .int .i64 f, .int .i64 g] 23).below (w' := ((w.alloc (.cells (List.toArray [.int .i64 p, .int .i64 c, .int .i64 n, .int .i64 b, .int .i64 r, .int .i64 f, .int .i64 g]) 23)).alloc (.cells (List.toArray [.int .i64 a.k, .int .i64 a.i, .int .i64 a.c, .int .i64 a.n, .int .i64 a.s, .int .i64 a.p, .int .i64 a.l, .int .i64 a.u, .int .i64 a.q]) 29))) (by rw [World.size_alloc]; go_grown)).below (w' := (((w.alloc (.cells (List.toArray [.int .i64 p, .int .i64 c, .int .i64 n, .int .i64 b, .int .i64 r, .int .i64 f, .int .i64 g]) 23)).alloc (.cells (List.toArray [.int .i64 a.k, .int .i64 a.i, .int .i64 a.c, .int .i64 a.n, .int .i64 a.s, .int .i64 a.p, .int .i64 a.l, .int .i64 a.u, .int .i64 a.q]) 29)).alloc (.cells (List.toArray [.int .i64 u.o, .int .i64 u.q, .int .i64 u.w, .int .i64 u.n, .int .i64 u.b, .int .i64 u.s]) 31))) (by go_grown)
    exact h
  have bA : Bl (w.heap.size + 1) [.int .i64 a.k, .int .i64 a.i, .int .i64 a.c, .int .i64 a.n, .int .i64 a.s, .int .i64 a.p, .int .i64 a.l, .int .i64 a.u, .int .i64 a.q] W0 := by
    rw [hW0]
    have h := (Bl.new (w.alloc (.cells (List.toArray [.int .i64 p, .int .i64 c, .int .i64 n, .int .i64 b, .int .i64 r, .int .i64 f, .int .i64 g]) 23)) [.int .i64 a.k, .int .i64 a.i, .int .i64 a.c, .int .i64 a.n, .int .i64 a.s, .int .i64 a.p, .int .i64 a.l, .int .i64 a.u, .int .i64 a.q] 29).below (w' := (((w.alloc (.cells (List.toArray [.int .i64 p, .int .i64 c, .int .i64 n, .int .i64 b, .int .i64 r, .int .i64 f, .int .i64 g]) 23)).alloc (.cells (List.toArray [.int .i64 a.k, .int .i64 a.i, .int .i64 a.c, .int .i64 a.n, .int .i64 a.s, .int .i64 a.p, .int .i64 a.l, .int .i64 a.u, .int .i64 a.q]) 29)).alloc (.cells (List.toArray [.int .i64 u.o, .int .i64 u.q, .int .i64 u.w, .int .i64 u.n, .int .i64 u.b, .int .i64 u.s]) 31))) (by go_grown)
    rw [World.size_alloc] at h
    exact h
  have bU : Bl (w.heap.size + 2) [.int .i64 u.o, .int .i64 u.q, .int .i64 u.w, .int .i64 u.n, .int .i64 u.b, .int .i64 u.s] W0 := by
    rw [hW0]
    have h := Bl.new ((w.alloc (.cells (List.toArray [.int .i64 p, .int .i64 c, .int .i64 n, .int .i64 b, .int .i64 r, .int .i64 f, .int .i64 g]) 23)).alloc (.cells (List.toArray [.int .i64 a.k, .int .i64 a.i, .int .i64 a.c, .int .i64 a.n, .int .i64 a.s, .int .i64 a.p, .int .i64 a.l, .int .i64 a.u, .int .i64 a.q]) 29)) [.int .i64 u.o, .int .i64 u.q, .int .i64 u.w, .int .i64 u.n, .int .i64 u.b, .int .i64 u.s] 31
    rw [World.size_alloc, World.size_alloc] at h
    exact h
  have hB0 : Below w.heap.size w W0 := by rw [hW0]; go_grown
  rw [← hW0]
  clear hW0
  refine (HN.out _).mono ?_
  rintro e1 w1 ⟨rfl, hb1⟩
  have hD1 : Below w1.heap.size w1 (w1.alloc (.cells (List.toArray [.int .i64 p, .int .i64 c, .int .i64 n, .int .i64 b, .int .i64 r, .int .i64 f, .int .i64 g]) 33)) := by go_grown
  have hB1a := Below.step (Below.step hB0 hb1) hD1
  have bC1 := (bC.below hb1).below hD1
  have bA1 := (bA.below hb1).below hD1
  have bU1 := (bU.below hb1).below hD1
  have bR1 := Bl.new w1 [.int .i64 p, .int .i64 c, .int .i64 n, .int .i64 b, .int .i64 r, .int .i64 f, .int .i64 g] 33
  have HB := Lib.hid hB1a
  have c0 : (w1.alloc (.cells (List.toArray [.int .i64 p, .int .i64 c, .int .i64 n, .int .i64 b, .int .i64 r, .int .i64 f, .int .i64 g]) 33)).cell? ⟨w.heap.size, 0, none⟩ = some (.int .i64 p) := bC1.cell 0 _ rfl
  have HC1 := Lib.hid bC1
  have HA1 := Lib.hid bA1
  have HU1 := Lib.hid bU1
  have HR1 := Lib.hid bR1
  clear hb1 hB0 bC bA bU hB1a hD1 bC1 bA1 bU1 bR1
  have hcl := HC1.out.lt
  have HWR := Lib.hid (wrong_is A ln cp gv (by omega) (w1.alloc (.cells (List.toArray [.int .i64 p, .int .i64 c, .int .i64 n, .int .i64 b, .int .i64 r, .int .i64 f, .int .i64 g]) 33)) (HE.out.below HB.out))
  go_wp2_with fail
  refine HWR.out.mono ?_
  rintro e2 w2 ⟨k, rfl, hb2, hk1, hk2⟩
  obtain rfl := hk1 HH.out
  have HB2 := Lib.hid (Below.step HB.out hb2)
  have bC2 := HC1.out.below hb2
  have hcl2 := bC2.lt
  have c0 : w2.cell? ⟨w.heap.size, 0, none⟩ = some (.int .i64 p) := bC2.cell 0 _ rfl
  have HC2 := Lib.hid bC2
  have HA2 := Lib.hid (HA1.out.below hb2)
  have HU2 := Lib.hid (HU1.out.below hb2)
  have HR2 := Lib.hid (HR1.out.below hb2)
  clear hk1 hk2 hb2 bC2 HC1 HA1 HU1 HR1 HWR
  clear HR2 HC2
  have HSM := Lib.hid (small_is w2.heap.size 9 9 [a.q, a.p, u.o, u.q, u.w, u.n, u.b, u.s, last] rfl (by omega) (w2.alloc (.cells (List.toArray [.int .i64 a.q, .int .i64 a.p, .int .i64 u.o, .int .i64 u.q, .int .i64 u.w, .int .i64 u.n, .int .i64 u.b, .int .i64 u.s, .int .i64 last]) 3)) (fun k x hx => by
    have h := Bl.new w2 [.int .i64 a.q, .int .i64 a.p, .int .i64 u.o, .int .i64 u.q, .int .i64 u.w, .int .i64 u.n, .int .i64 u.b, .int .i64 u.s, .int .i64 last] 3
    refine h.cell k _ ?_
    have h2 : [.int .i64 a.q, .int .i64 a.p, .int .i64 u.o, .int .i64 u.q, .int .i64 u.w, .int .i64 u.n, .int .i64 u.b, .int .i64 u.s, .int .i64 last] = ([a.q, a.p, u.o, u.q, u.w, u.n, u.b, u.s, last] : List Int).map (Value.int .i64) := rfl
    rw [h2, List.getElem?_map, hx]
    rfl))
  have bA2 := HA2.out
  have bU2 := HU2.out
  have hal2 := bA2.lt
  have hul2 := bU2.lt
  have a5 : w2.cell? ⟨w.heap.size + 1, 5, none⟩ = some (.int .i64 a.p) := bA2.cell 5 _ rfl
  have a8 : w2.cell? ⟨w.heap.size + 1, 8, none⟩ = some (.int .i64 a.q) := bA2.cell 8 _ rfl
  have u0' : w2.cell? ⟨w.heap.size + 2, 0, none⟩ = some (.int .i64 u.o) := bU2.cell 0 _ rfl
  have u1' : w2.cell? ⟨w.heap.size + 2, 1, none⟩ = some (.int .i64 u.q) := bU2.cell 1 _ rfl
  have u2' : w2.cell? ⟨w.heap.size + 2, 2, none⟩ = some (.int .i64 u.w) := bU2.cell 2 _ rfl
  have u3' : w2.cell? ⟨w.heap.size + 2, 3, none⟩ = some (.int .i64 u.n) := bU2.cell 3 _ rfl
  have u4' : w2.cell? ⟨w.heap.size + 2, 4, none⟩ = some (.int .i64 u.b) := bU2.cell 4 _ rfl
  have u5' : w2.cell? ⟨w.heap.size + 2, 5, none⟩ = some (.int .i64 u.s) := bU2.cell 5 _ rfl
  clear bA2 bU2
  go_wp2_with fail
  refine HSM.out.mono ?_
  rintro e3 w3 ⟨rfl, rfl⟩
  have HB3 := Lib.hid (HB2.out.alloc HB2.out.size (.cells (List.toArray [.int .i64 a.q, .int .i64 a.p, .int .i64 u.o, .int .i64 u.q, .int .i64 u.w, .int .i64 u.n, .int .i64 u.b, .int .i64 u.s, .int .i64 last]) 3))
  rw [HS.out]
  clear a5 a8 u0' u1' u2' u3' u4' u5' HSM
  go_wp2_with fail
  refine (awake_is _ (((HB3.out).cell (p := ⟨0, 0, none⟩) hgl).trans HGG.out) (Nat.lt_of_lt_of_le hgl (HB3.out).size)).mono ?_
  rintro e9 w9 ⟨rfl, hb9⟩
  go_wp2_with fail
  go_ret
  exact ⟨rfl, Below.step (HB3.out) hb9⟩
end Go.Proofs.YtmddgaokdlhegaaDoor.fenceMore

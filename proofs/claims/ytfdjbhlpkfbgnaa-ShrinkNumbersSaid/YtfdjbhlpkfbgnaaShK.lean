/-
  The law's self test holds.
-/
import Derived.Test.YtfdjbhlpkfbgnaaRows
import Derived.Test.YtfdjbhlpkfbgnaaKit
import Derived.Test.YtfdjbhlpkfbgnaaApp
import Derived.Test.YtfdjbhlpkfbgnaaQuiet
import Derived.Test.YtfdjbhlpkfbgnaaShM
import Derived.Test.YtfdjbhlpkfbgnaaShO
import Derived.Test.YtfdjbhlpkfbgnaaShB
import Derived.Test.YtfdjbhlpkfbgnaaShC
import Derived.Test.YtfdjbhlpkfbgnaaShD
import Derived.Test.YtfdjbhlpkfbgnaaShE
import Derived.Test.YtfdjbhlpkfbgnaaShU
import Derived.Test.YtfdjbhlpkfbgnaaShV
import Derived.Test.YtfdjbhlpkfbgnaaShA
import Derived.Test.YtfdjbhlpkfbgnaaShF
import Derived.Test.YtfdjbhlpkfbgnaaShG
import Derived.Test.YtfdjbhlpkfbgnaaShH
import Derived.WalkKit
import Derived.ProofKit
import Derived.OpenShut
import Derived.ShutString
import Derived.Below
import Derived.Outline
import Derived.WalkLawsBesides
import Derived.WalkSpells
import Derived.Handy
import Derived.Deep.QuietTactic
import Derived.BigQuiet
import Derived.RegionTactic
import Derived.ChangeAlike
import Derived.Lib.Hide
import Derived.Laws.Rows
import Derived.Laws.Tables
import Derived.Laws.CopyOwn
import Derived.Laws.MakeOwn
import Derived.Laws.Entries
import Derived.Laws.OwnMore
import Derived.Deep.WholeRow
import Derived.Deep.LoopGhost
import Derived.Deep.AppendLies
import Derived.Deep.Draws
import Derived.Maps.AppendAt
import Derived.OwnWalk
import Derived.Deep.RegionHeld3
import Derived.Deep.Cut
import Derived.Deep.CutRange
import Derived.Deep.DeepCutAuto
import Derived.Deep.CutBlock
import Derived.Lib.SliceRun
import Derived.IntWalk
namespace Go.Proofs.Ytfdjbhlpkfbgnaa
open Go.ChangeShapes Go.WideShapes Go.ChangeAt Go.RowKit
def evA : Evn := ⟨2, 0, 1, 0, 0, 0, 0, 0, 0, 0, 0, 0⟩
def evC : Evn := ⟨2, 0, 3, 0, 0, 0, 0, 0, 0, 0, 0, 0⟩
theorem ask_new17 (W : World) : AskOk (W.alloc (.cells #[.func (.func 17) #[] #[]] 44)) W.heap.size (holdsE 2 3) :=
  ask17 _ W.heap.size ((Bl.new W [.func (.func 17) #[] #[]] 44).cell 0 _ rfl) (by rw [World.size_alloc]; omega)
set_option maxRecDepth 100000 in
set_option maxHeartbeats 1000000 in
theorem awake_is (w : World) : Calls Try.prog 6 #[] w fun e w' => e = .returned (.bool true) ∧ Below w.heap.size w w' := by
  have hrow : (w.alloc (.cells (List.toArray [.int .i64 2, .int .i64 0, .int .i64 1, .int .i64 0, .int .i64 0, .int .i64 0, .int .i64 0, .int .i64 0, .int .i64 0, .int .i64 0, .int .i64 0, .int .i64 0, .int .i64 2, .int .i64 0, .int .i64 1, .int .i64 0, .int .i64 0, .int .i64 0, .int .i64 0, .int .i64 0, .int .i64 0, .int .i64 0, .int .i64 0, .int .i64 0, .int .i64 2, .int .i64 0, .int .i64 3, .int .i64 0, .int .i64 0, .int .i64 0, .int .i64 0, .int .i64 0, .int .i64 0, .int .i64 0, .int .i64 0, .int .i64 0]) 38)).ownsRow w.heap.size 38 12 (.slice (some ⟨w.heap.size, 0, none⟩) 3 3) 3 (nv [evA, evA, evC]) := World.ownsRow_lit w (List.toArray [.int .i64 2, .int .i64 0, .int .i64 1, .int .i64 0, .int .i64 0, .int .i64 0, .int .i64 0, .int .i64 0, .int .i64 0, .int .i64 0, .int .i64 0, .int .i64 0, .int .i64 2, .int .i64 0, .int .i64 1, .int .i64 0, .int .i64 0, .int .i64 0, .int .i64 0, .int .i64 0, .int .i64 0, .int .i64 0, .int .i64 0, .int .i64 0, .int .i64 2, .int .i64 0, .int .i64 3, .int .i64 0, .int .i64 0, .int .i64 0, .int .i64 0, .int .i64 0, .int .i64 0, .int .i64 0, .int .i64 0, .int .i64 0]) 3 (Nat.le_refl _) (by decide) rfl
  have hbW : Below w.heap.size w (w.alloc (.cells (List.toArray [.int .i64 2, .int .i64 0, .int .i64 1, .int .i64 0, .int .i64 0, .int .i64 0, .int .i64 0, .int .i64 0, .int .i64 0, .int .i64 0, .int .i64 0, .int .i64 0, .int .i64 2, .int .i64 0, .int .i64 1, .int .i64 0, .int .i64 0, .int .i64 0, .int .i64 0, .int .i64 0, .int .i64 0, .int .i64 0, .int .i64 0, .int .i64 0, .int .i64 2, .int .i64 0, .int .i64 3, .int .i64 0, .int .i64 0, .int .i64 0, .int .i64 0, .int .i64 0, .int .i64 0, .int .i64 0, .int .i64 0, .int .i64 0]) 38)) := (Below.refl _ _).alloc (Nat.le_refl _) _
  have HBW := Lib.hid hbW
  have HQ := Lib.hid (script_is (.func 17) #[] (holdsE 2 3) w.heap.size 3 3 (some ⟨w.heap.size, 0, none⟩) [evA, evA, evC] _ hrow rfl (by omega) (ask_new17 _))
  have hT : holdsE 2 3 [evA, evA, evC] = true := by decide
  rw [hT] at HQ
  clear hrow hbW hT
  go_enter Try.func6, Try.ntmps6
  go_wp2_with fail
  refine HQ.out.mono ?_
  rintro e1 w1 ⟨v, rfl, hb1, hx⟩
  obtain ⟨x, ⟨b, A, c, rfl, ho⟩, hsub, hpx, hlx⟩ := hx (by trivial)
  obtain rfl := least_three ⟨rfl, rfl⟩ ⟨rfl, rfl⟩ ⟨rfl, rfl⟩ hsub hpx hlx
  have hB := Below.step HBW.out hb1
  have HB := Lib.hid hB
  obtain ⟨g, cp, hv, _, _⟩ := World.ownsRow.form ho (by decide)
  obtain ⟨rfl, rfl⟩ : A = some ⟨g, 0, none⟩ ∧ cp = c := by
    injection hv with h1 h2 h3
    exact ⟨h1, h3.symm⟩
  have c2 : w1.cell? ⟨g, 2, none⟩ = some (.int .i64 3) := erow_cell (k := 0) (j := 2) ho rfl rfl (by omega) rfl
  clear hv ho hsub hpx hlx hx hb1 hB HQ HBW
  go_wp2_with fail
  go_ret
  exact ⟨rfl, HB.out⟩
end Go.Proofs.Ytfdjbhlpkfbgnaa

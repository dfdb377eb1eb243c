/-
  A model that is none.
-/
import Derived.Test.YtnhmdaoghcfghaaRows
import Derived.Test.YtnhmdaoghcfghaaKit
import Derived.Test.YtnhmdaoghcfghaaApp
import Derived.Test.YtnhmdaoghcfghaaQuiet
import Derived.Test.YtnhmdaoghcfghaaTrM
import Derived.Test.YtnhmdaoghcfghaaTrS
import Derived.Test.YtnhmdaoghcfghaaTrF
import Derived.Test.YtnhmdaoghcfghaaTrG
import Derived.Test.YtnhmdaoghcfghaaTrH
import Derived.Test.YtnhmdaoghcfghaaTrI
import Derived.Test.YtnhmdaoghcfghaaTrJ
import Derived.Test.YtnhmdaoghcfghaaTrK
import Derived.Test.YtnhmdaoghcfghaaTrL
import Derived.Test.YtnhmdaoghcfghaaTrN
import Derived.Test.YtnhmdaoghcfghaaTrO
import Derived.Test.YtnhmdaoghcfghaaRules
import Derived.Test.YtnhmdaoghcfghaaTrP
import Derived.Test.YtnhmdaoghcfghaaTrQ
import Derived.Test.YtnhmdaoghcfghaaTrR
import Derived.Test.YtnhmdaoghcfghaaTrT
import Derived.Test.YtnhmdaoghcfghaaTrU
import Derived.WalkKit
import Derived.ProofKit
import Derived.OpenShut
import Derived.ShutString
import Derived.Below
import Derived.Outline
import Derived.WalkLawsBesides
import Derived.WalkSpells
import Derived.Handy
import Derived.Deep.QuietTactic
import Derived.BigQuiet
import Derived.RegionTactic
import Derived.ChangeAlike
import Derived.Lib.Hide
import Derived.Laws.Rows
import Derived.Laws.Tables
import Derived.Laws.CopyOwn
import Derived.Laws.MakeOwn
import Derived.Laws.Entries
import Derived.Laws.OwnMore
import Derived.Deep.WholeRow
import Derived.Deep.LoopGhost
import Derived.Deep.AppendLies
import Derived.Deep.Draws
import Derived.Maps.AppendAt
import Derived.OwnWalk
import Derived.Deep.RegionHeld3
import Derived.Deep.Cut
import Derived.Deep.CutRange
import Derived.Deep.DeepCutAuto
import Derived.Deep.CutBlock
import Derived.Lib.SliceRun
import Derived.IntWalk
import Derived.OpenShut
import Derived.Deep.Slices
import Derived.Deep.Fields
import Derived.ChangeSame
import Derived.ChangeArms
import Derived.Test.YtnhmdaoghcfghaaTrW
import Derived.Laws.CopyOwn
import Derived.Test.YtnhmdaoghcfghaaTrX
import Derived.Test.YtnhmdaoghcfghaaTrY
import Derived.Test.YtnhmdaoghcfghaaTrZ
import Derived.Test.YtnhmdaoghcfghaaTrWf
import Derived.Test.YtnhmdaoghcfghaaSumsA
import Derived.Test.YtnhmdaoghcfghaaTrV
namespace Go.Proofs.Ytnhmdaoghcfghaa
open Go.ChangeShapes Go.WideShapes Go.ChangeAt Go.RowKit
set_option maxRecDepth 100000 in
theorem do_nil (w : World) : Calls Try.prog 9 #[.pointer none, .agg #[.int .i64 0, .int .i64 0, .int .i64 0, .int .i64 0, .int .i64 0, .int .i64 0, .int .i64 0, .int .i64 0, .int .i64 0, .int .i64 0, .int .i64 0, .int .i64 0, .int .i64 0, .int .i64 0]] w fun e w' => e = .returned (.iface 57 (.int .i64 2)) ∧ Below w.heap.size w w' := by
  go_enter Try.func9, Try.ntmps9
  go_wp2_with fail
  go_ret
  exact ⟨rfl, by go_grown⟩
theorem orders_nil (w : World) : Calls Try.prog 11 #[.pointer none] w fun e w' => e = .returned (.slice none 0 0) ∧ Below w.heap.size w w' := by
  go_enter Try.func11, Try.ntmps11
  go_wp2_with fail
  go_ret
  exact ⟨rfl, by go_grown⟩
end Go.Proofs.Ytnhmdaoghcfghaa

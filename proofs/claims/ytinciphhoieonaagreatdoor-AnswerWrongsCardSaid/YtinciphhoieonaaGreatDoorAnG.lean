/-
  The law's example.
-/
import Derived.Test.YtinciphhoieonaaGreatDoorRows
import Derived.Test.YtinciphhoieonaaGreatDoorKit
import Derived.Test.YtinciphhoieonaaGreatDoorApp
import Derived.Test.YtinciphhoieonaaGreatDoorQuiet
import Derived.WalkKit
import Derived.ProofKit
import Derived.OpenShut
import Derived.ShutString
import Derived.Below
import Derived.Outline
import Derived.WalkLawsBesides
import Derived.WalkSpells
import Derived.Handy
import Derived.Deep.QuietTactic
import Derived.BigQuiet
import Derived.RegionTactic
import Derived.ChangeAlike
import Derived.Lib.Hide
import Derived.Laws.Rows
import Derived.Laws.Tables
import Derived.Laws.CopyOwn
import Derived.Laws.MakeOwn
import Derived.Laws.Entries
import Derived.Laws.OwnMore
import Derived.Deep.WholeRow
import Derived.Deep.LoopGhost
import Derived.Deep.AppendLies
import Derived.Deep.Draws
import Derived.Maps.AppendAt
import Derived.OwnWalk
import Derived.Deep.RegionHeld3
import Derived.Deep.Cut
import Derived.Deep.CutRange
import Derived.Deep.DeepCutAuto
import Derived.Deep.CutBlock
import Derived.Lib.SliceRun
import Derived.IntWalk
import Derived.Laws.Strings
import Derived.Lib.Bytealg
import Derived.Lib.Strings
import Derived.Laws.Externs
import Derived.Test.YtinciphhoieonaaGreatDoorAnO
namespace Go.Proofs.YtinciphhoieonaaGreatDoor
open Go.ChangeShapes Go.WideShapes Go.ChangeAt Go.RowKit
theorem ex_rt : Rt ⟨2, 0, 9, 7, 0, true, 0, 0, 0, 0, 0, 0, []⟩ := by
  refine ⟨by decide, by decide, by decide, by decide, by decide, by decide, by decide, by decide, .inl (by decide), .inl rfl⟩
theorem ex_line : (ByteArray.mk #[57, 32, 99, 97, 110, 99, 101, 108, 32, 55, 32, 48, 32, 97, 115, 107, 101, 100]) = Bs (jl (aw ⟨2, 0, 9, 7, 0, true, 0, 0, 0, 0, 0, 0, []⟩)) := by
  have e : aw ⟨2, 0, 9, 7, 0, true, 0, 0, 0, 0, 0, 0, []⟩ = [dcl 9, vbl 2, dcl 7, dcl 0, wAsk] := rfl
  rw [e, dcl_small (by decide), dcl_small (by decide), dcl_small (by decide)]
  rfl
set_option maxRecDepth 100000 in
set_option maxHeartbeats 8000000 in
theorem awake_is (w : World) (hv : Vb w) (ht : Tb w) (hm : Ml w) : Calls Tryz.prog 5 #[] w fun e w' => e = .returned (.bool true) ∧ Below w.heap.size w w' := by
  have hp := parse_is 2 0 9 7 0 true 0 0 0 0 0 0 [] ex_rt (by decide) (by decide) w hv ht hm
  rw [← ex_line] at hp
  have HP := Lib.hid hp
  clear hp hv ht hm
  go_enter Tryz.func5, Tryz.ntmps5
  go_wp2_with fail
  refine HP.out.mono ?_
  rintro e1 w1 ⟨A, cap, rfl, _, hb1⟩
  have g := Lib.hid (Below.step hb1 (show Below w1.heap.size w1 (w1.alloc (.cells (List.toArray [.int .i64 2, .int .i64 0, .int .i64 9, .int .i64 7, .int .i64 0, .bool true, .int .i64 0, .int .i64 0, .int .i64 0, .int .i64 0, .int .i64 0, .int .i64 0, .slice A 0 cap]) 27)) by go_grown))
  clear hb1
  go_wp2_with fail
  go_ret
  exact ⟨rfl, g.out⟩

end Go.Proofs.YtinciphhoieonaaGreatDoor

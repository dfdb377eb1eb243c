/-
  Print of a reply that may not be told.
-/
import Derived.Test.YtinciphhoieonaaGreatDoorRows
import Derived.Test.YtinciphhoieonaaGreatDoorKit
import Derived.Test.YtinciphhoieonaaGreatDoorApp
import Derived.Test.YtinciphhoieonaaGreatDoorQuiet
import Derived.WalkKit
import Derived.ProofKit
import Derived.OpenShut
import Derived.ShutString
import Derived.Below
import Derived.Outline
import Derived.WalkLawsBesides
import Derived.WalkSpells
import Derived.Handy
import Derived.Deep.QuietTactic
import Derived.BigQuiet
import Derived.RegionTactic
import Derived.ChangeAlike
import Derived.Lib.Hide
import Derived.Laws.Rows
import Derived.Laws.Tables
import Derived.Laws.CopyOwn
import Derived.Laws.MakeOwn
import Derived.Laws.Entries
import Derived.Laws.OwnMore
import Derived.Deep.WholeRow
import Derived.Deep.LoopGhost
import Derived.Deep.AppendLies
import Derived.Deep.Draws
import Derived.Maps.AppendAt
import Derived.OwnWalk
import Derived.Deep.RegionHeld3
import Derived.Deep.Cut
import Derived.Deep.CutRange
import Derived.Deep.DeepCutAuto
import Derived.Deep.CutBlock
import Derived.Lib.SliceRun
import Derived.IntWalk
import Derived.Laws.Strings
import Derived.Lib.Bytealg
import Derived.Lib.Strings
import Derived.Laws.Externs
import Derived.Test.YtinciphhoieonaaGreatDoorAnRi
namespace Go.Proofs.YtinciphhoieonaaGreatDoor
open Go.ChangeShapes Go.WideShapes Go.ChangeAt Go.RowKit
set_option maxRecDepth 100000 in
set_option maxHeartbeats 8000000 in
theorem print_no (k cd t i c : Int) (ask : Bool) (r0 r1 r2 r3 r4 r5 : Int) (L : List Lk) (A : Option Addr) (cap : Nat) (hn : ¬ Rt ⟨k, cd, t, i, c, ask, r0, r1, r2, r3, r4, r5, L⟩) (hl : L.length ≤ 1000) (w : World) (hL : LkAt A L w) : Calls Tryz.prog 8 #[.agg (List.toArray [.int .i64 k, .int .i64 cd, .int .i64 t, .int .i64 i, .int .i64 c, .bool ask, .int .i64 r0, .int .i64 r1, .int .i64 r2, .int .i64 r3, .int .i64 r4, .int .i64 r5, .slice A L.length cap])] w fun e w' => e = .returned (.tuple #[.string ⟨#[]⟩, .iface 22 (.int .i64 6)]) ∧ Below w.heap.size w w' := by
  have g : Below w.heap.size w (w.alloc (.cells (List.toArray [.int .i64 k, .int .i64 cd, .int .i64 t, .int .i64 i, .int .i64 c, .bool ask, .int .i64 r0, .int .i64 r1, .int .i64 r2, .int .i64 r3, .int .i64 r4, .int .i64 r5, .slice A L.length cap]) 27)) := by go_grown
  have h := right_any k cd t i c ask r0 r1 r2 r3 r4 r5 L A cap hl (w.alloc (.cells (List.toArray [.int .i64 k, .int .i64 cd, .int .i64 t, .int .i64 i, .int .i64 c, .bool ask, .int .i64 r0, .int .i64 r1, .int .i64 r2, .int .i64 r3, .int .i64 r4, .int .i64 r5, .slice A L.length cap]) 27)) (hL.below g)
  have HR : Hid (Calls Tryz.prog 9 #[.agg (List.toArray [.int .i64 k, .int .i64 cd, .int .i64 t, .int .i64 i, .int .i64 c, .bool ask, .int .i64 r0, .int .i64 r1, .int .i64 r2, .int .i64 r3, .int .i64 r4, .int .i64 r5, .slice A L.length cap])] (w.alloc (.cells (List.toArray [.int .i64 k, .int .i64 cd, .int .i64 t, .int .i64 i, .int .i64 c, .bool ask, .int .i64 r0, .int .i64 r1, .int .i64 r2, .int .i64 r3, .int .i64 r4, .int .i64 r5, .slice A L.length cap]) 27)) (fun e w' => e = .returned (.bool false) ∧ Below w.heap.size w w')) := Lib.hid (h.mono (fun e w' h => by
    obtain ⟨⟨b, rfl, hb⟩, h2⟩ := h
    cases b with
    | true => exact absurd (hb.1 rfl) hn
    | false => exact ⟨rfl, Below.step g h2⟩))
  clear h g hL hl hn
  go_enter Tryz.func8, Tryz.ntmps8
  go_wp2_with fail
  refine HR.out.mono ?_
  rintro e1 w1 ⟨rfl, hb1⟩
  have HB := Lib.hid hb1
  clear hb1
  go_wp2_with fail
  go_ret2
  exact ⟨rfl, HB.out⟩

end Go.Proofs.YtinciphhoieonaaGreatDoor

/-
  The statements' example of layer 9.
-/
import Derived.Test.YtnhmdaoghcfghaaRows
import Derived.Test.YtnhmdaoghcfghaaKit
import Derived.Test.YtnhmdaoghcfghaaApp
import Derived.Test.YtnhmdaoghcfghaaQuiet
import Derived.Test.YtnhmdaoghcfghaaTrM
import Derived.Test.YtnhmdaoghcfghaaTrS
import Derived.Test.YtnhmdaoghcfghaaTrF
import Derived.Test.YtnhmdaoghcfghaaTrG
import Derived.Test.YtnhmdaoghcfghaaTrH
import Derived.Test.YtnhmdaoghcfghaaTrI
import Derived.Test.YtnhmdaoghcfghaaTrJ
import Derived.Test.YtnhmdaoghcfghaaTrK
import Derived.Test.YtnhmdaoghcfghaaTrL
import Derived.Test.YtnhmdaoghcfghaaTrN
import Derived.Test.YtnhmdaoghcfghaaTrO
import Derived.Test.YtnhmdaoghcfghaaRules
import Derived.Test.YtnhmdaoghcfghaaTrP
import Derived.Test.YtnhmdaoghcfghaaTrQ
import Derived.Test.YtnhmdaoghcfghaaTrR
import Derived.Test.YtnhmdaoghcfghaaTrT
import Derived.Test.YtnhmdaoghcfghaaTrU
import Derived.WalkKit
import Derived.ProofKit
import Derived.OpenShut
import Derived.ShutString
import Derived.Below
import Derived.Outline
import Derived.WalkLawsBesides
import Derived.WalkSpells
import Derived.Handy
import Derived.Deep.QuietTactic
import Derived.BigQuiet
import Derived.RegionTactic
import Derived.ChangeAlike
import Derived.Lib.Hide
import Derived.Laws.Rows
import Derived.Laws.Tables
import Derived.Laws.CopyOwn
import Derived.Laws.MakeOwn
import Derived.Laws.Entries
import Derived.Laws.OwnMore
import Derived.Deep.WholeRow
import Derived.Deep.LoopGhost
import Derived.Deep.AppendLies
import Derived.Deep.Draws
import Derived.Maps.AppendAt
import Derived.OwnWalk
import Derived.Deep.RegionHeld3
import Derived.Deep.Cut
import Derived.Deep.CutRange
import Derived.Deep.DeepCutAuto
import Derived.Deep.CutBlock
import Derived.Lib.SliceRun
import Derived.IntWalk
namespace Go.Proofs.Ytnhmdaoghcfghaa
open Go.ChangeShapes Go.WideShapes Go.ChangeAt Go.RowKit
set_option maxRecDepth 100000 in
set_option maxHeartbeats 8000000 in
theorem awake_is (w : World) : Calls Try.prog 7 #[] w fun e w' => e = .returned (.bool true) ∧ Below w.heap.size w w' := by
  have HN := Lib.hid (rnew_ok 2 1 1 1 0 2 1 w (by decide) (by decide) (by decide) (by decide) (by decide) (by decide) (by decide))
  go_enter Try.func7, Try.ntmps7
  go_wp2_with fail
  refine HN.out.mono ?_
  rintro e w1 ⟨rfl, hb1⟩
  have hB1 : Below w.heap.size w w1 := hb1
  clear hb1
  go_wp2_with fail
  have hg1 : Below w1.heap.size w1 (((w1.alloc (Obj.cells (List.toArray [.int .i64 2, .int .i64 1, .int .i64 1, .int .i64 1, .int .i64 0, .int .i64 2, .int .i64 1]) 26)).alloc (Obj.cells (List.toArray [.int .i64 1, .int .i64 0, .int .i64 1, .int .i64 0, .int .i64 0, .int .i64 0, .int .i64 0, .int .i64 10, .int .i64 1, .int .i64 5, .int .i64 5, .int .i64 0, .int .i64 0, .int .i64 0]) 41)).alloc (Obj.cells (List.toArray [.int .i64 1, .int .i64 1, .int .i64 1, .int .i64 0, .int .i64 0, .int .i64 0, .int .i64 1, .int .i64 8, .int .i64 1, .int .i64 5, .int .i64 3, .int .i64 0, .int .i64 0, .int .i64 0]) 41)) := by go_grown
  have hz : (((w1.alloc (Obj.cells (List.toArray [.int .i64 2, .int .i64 1, .int .i64 1, .int .i64 1, .int .i64 0, .int .i64 2, .int .i64 1]) 26)).alloc (Obj.cells (List.toArray [.int .i64 1, .int .i64 0, .int .i64 1, .int .i64 0, .int .i64 0, .int .i64 0, .int .i64 0, .int .i64 10, .int .i64 1, .int .i64 5, .int .i64 5, .int .i64 0, .int .i64 0, .int .i64 0]) 41)).alloc (Obj.cells (List.toArray [.int .i64 1, .int .i64 1, .int .i64 1, .int .i64 0, .int .i64 0, .int .i64 0, .int .i64 1, .int .i64 8, .int .i64 1, .int .i64 5, .int .i64 3, .int .i64 0, .int .i64 0, .int .i64 0]) 41)).heap.size = w1.heap.size + 1 + 1 + 1 := by simp
  have bG := Bl.new (((w1.alloc (Obj.cells (List.toArray [.int .i64 2, .int .i64 1, .int .i64 1, .int .i64 1, .int .i64 0, .int .i64 2, .int .i64 1]) 26)).alloc (Obj.cells (List.toArray [.int .i64 1, .int .i64 0, .int .i64 1, .int .i64 0, .int .i64 0, .int .i64 0, .int .i64 0, .int .i64 10, .int .i64 1, .int .i64 5, .int .i64 5, .int .i64 0, .int .i64 0, .int .i64 0]) 41)).alloc (Obj.cells (List.toArray [.int .i64 1, .int .i64 1, .int .i64 1, .int .i64 0, .int .i64 0, .int .i64 0, .int .i64 1, .int .i64 8, .int .i64 1, .int .i64 5, .int .i64 3, .int .i64 0, .int .i64 0, .int .i64 0]) 41)) [.int .i64 1, .int .i64 0, .int .i64 1, .int .i64 0, .int .i64 0, .int .i64 0, .int .i64 0, .int .i64 10, .int .i64 1, .int .i64 5, .int .i64 5, .int .i64 0, .int .i64 0, .int .i64 0, .int .i64 1, .int .i64 1, .int .i64 1, .int .i64 0, .int .i64 0, .int .i64 0, .int .i64 1, .int .i64 8, .int .i64 1, .int .i64 5, .int .i64 3, .int .i64 0, .int .i64 0, .int .i64 0, .int .i64 2, .int .i64 0, .int .i64 1, .int .i64 1, .int .i64 1, .int .i64 0, .int .i64 0, .int .i64 0, .int .i64 0, .int .i64 0, .int .i64 3, .int .i64 9, .int .i64 0, .int .i64 0] 41
  rw [hz] at bG
  have hg2 : Below (((w1.alloc (Obj.cells (List.toArray [.int .i64 2, .int .i64 1, .int .i64 1, .int .i64 1, .int .i64 0, .int .i64 2, .int .i64 1]) 26)).alloc (Obj.cells (List.toArray [.int .i64 1, .int .i64 0, .int .i64 1, .int .i64 0, .int .i64 0, .int .i64 0, .int .i64 0, .int .i64 10, .int .i64 1, .int .i64 5, .int .i64 5, .int .i64 0, .int .i64 0, .int .i64 0]) 41)).alloc (Obj.cells (List.toArray [.int .i64 1, .int .i64 1, .int .i64 1, .int .i64 0, .int .i64 0, .int .i64 0, .int .i64 1, .int .i64 8, .int .i64 1, .int .i64 5, .int .i64 3, .int .i64 0, .int .i64 0, .int .i64 0]) 41)).heap.size (((w1.alloc (Obj.cells (List.toArray [.int .i64 2, .int .i64 1, .int .i64 1, .int .i64 1, .int .i64 0, .int .i64 2, .int .i64 1]) 26)).alloc (Obj.cells (List.toArray [.int .i64 1, .int .i64 0, .int .i64 1, .int .i64 0, .int .i64 0, .int .i64 0, .int .i64 0, .int .i64 10, .int .i64 1, .int .i64 5, .int .i64 5, .int .i64 0, .int .i64 0, .int .i64 0]) 41)).alloc (Obj.cells (List.toArray [.int .i64 1, .int .i64 1, .int .i64 1, .int .i64 0, .int .i64 0, .int .i64 0, .int .i64 1, .int .i64 8, .int .i64 1, .int .i64 5, .int .i64 3, .int .i64 0, .int .i64 0, .int .i64 0]) 41)) ((((w1.alloc (Obj.cells (List.toArray [.int .i64 2, .int .i64 1, .int .i64 1, .int .i64 1, .int .i64 0, .int .i64 2, .int .i64 1]) 26)).alloc (Obj.cells (List.toArray [.int .i64 1, .int .i64 0, .int .i64 1, .int .i64 0, .int .i64 0, .int .i64 0, .int .i64 0, .int .i64 10, .int .i64 1, .int .i64 5, .int .i64 5, .int .i64 0, .int .i64 0, .int .i64 0]) 41)).alloc (Obj.cells (List.toArray [.int .i64 1, .int .i64 1, .int .i64 1, .int .i64 0, .int .i64 0, .int .i64 0, .int .i64 1, .int .i64 8, .int .i64 1, .int .i64 5, .int .i64 3, .int .i64 0, .int .i64 0, .int .i64 0]) 41)).alloc (Obj.cells (List.toArray [.int .i64 1, .int .i64 0, .int .i64 1, .int .i64 0, .int .i64 0, .int .i64 0, .int .i64 0, .int .i64 10, .int .i64 1, .int .i64 5, .int .i64 5, .int .i64 0, .int .i64 0, .int .i64 0, .int .i64 1, .int .i64 1, .int .i64 1, .int .i64 0, .int .i64 0, .int .i64 0, .int .i64 1, .int .i64 8, .int .i64 1, .int .i64 5, .int .i64 3, .int .i64 0, .int .i64 0, .int .i64 0, .int .i64 2, .int .i64 0, .int .i64 1, .int .i64 1, .int .i64 1, .int .i64 0, .int .i64 0, .int .i64 0, .int .i64 0, .int .i64 0, .int .i64 3, .int .i64 9, .int .i64 0, .int .i64 0]) 41)) := by go_grown
  have hB2 := Below.step (Below.step hB1 hg1) hg2
  have HP := Lib.hid (play_is ((((w1.alloc (Obj.cells (List.toArray [.int .i64 2, .int .i64 1, .int .i64 1, .int .i64 1, .int .i64 0, .int .i64 2, .int .i64 1]) 26)).alloc (Obj.cells (List.toArray [.int .i64 1, .int .i64 0, .int .i64 1, .int .i64 0, .int .i64 0, .int .i64 0, .int .i64 0, .int .i64 10, .int .i64 1, .int .i64 5, .int .i64 5, .int .i64 0, .int .i64 0, .int .i64 0]) 41)).alloc (Obj.cells (List.toArray [.int .i64 1, .int .i64 1, .int .i64 1, .int .i64 0, .int .i64 0, .int .i64 0, .int .i64 1, .int .i64 8, .int .i64 1, .int .i64 5, .int .i64 3, .int .i64 0, .int .i64 0, .int .i64 0]) 41)).alloc (Obj.cells (List.toArray [.int .i64 1, .int .i64 0, .int .i64 1, .int .i64 0, .int .i64 0, .int .i64 0, .int .i64 0, .int .i64 10, .int .i64 1, .int .i64 5, .int .i64 5, .int .i64 0, .int .i64 0, .int .i64 0, .int .i64 1, .int .i64 1, .int .i64 1, .int .i64 0, .int .i64 0, .int .i64 0, .int .i64 1, .int .i64 8, .int .i64 1, .int .i64 5, .int .i64 3, .int .i64 0, .int .i64 0, .int .i64 0, .int .i64 2, .int .i64 0, .int .i64 1, .int .i64 1, .int .i64 1, .int .i64 0, .int .i64 0, .int .i64 0, .int .i64 0, .int .i64 0, .int .i64 3, .int .i64 9, .int .i64 0, .int .i64 0]) 41)) (w1.heap.size + 1 + 1 + 1) bG)
  clear hg1 hz bG hg2 hB1
  generalize (((w1.alloc (Obj.cells (List.toArray [.int .i64 2, .int .i64 1, .int .i64 1, .int .i64 1, .int .i64 0, .int .i64 2, .int .i64 1]) 26)).alloc (Obj.cells (List.toArray [.int .i64 1, .int .i64 0, .int .i64 1, .int .i64 0, .int .i64 0, .int .i64 0, .int .i64 0, .int .i64 10, .int .i64 1, .int .i64 5, .int .i64 5, .int .i64 0, .int .i64 0, .int .i64 0]) 41)).alloc (Obj.cells (List.toArray [.int .i64 1, .int .i64 1, .int .i64 1, .int .i64 0, .int .i64 0, .int .i64 0, .int .i64 1, .int .i64 8, .int .i64 1, .int .i64 5, .int .i64 3, .int .i64 0, .int .i64 0, .int .i64 0]) 41)).alloc (Obj.cells (List.toArray [.int .i64 1, .int .i64 0, .int .i64 1, .int .i64 0, .int .i64 0, .int .i64 0, .int .i64 0, .int .i64 10, .int .i64 1, .int .i64 5, .int .i64 5, .int .i64 0, .int .i64 0, .int .i64 0, .int .i64 1, .int .i64 1, .int .i64 1, .int .i64 0, .int .i64 0, .int .i64 0, .int .i64 1, .int .i64 8, .int .i64 1, .int .i64 5, .int .i64 3, .int .i64 0, .int .i64 0, .int .i64 0, .int .i64 2, .int .i64 0, .int .i64 1, .int .i64 1, .int .i64 1, .int .i64 0, .int .i64 0, .int .i64 0, .int .i64 0, .int .i64 0, .int .i64 3, .int .i64 9, .int .i64 0, .int .i64 0]) 41) = w2 at *
  refine HP.out.mono ?_
  rintro e w3 ⟨B, K, v', rfl, hM⟩
  have hB3 : Below w.heap.size w w3 := Below.step hB2 ((show Below w2.heap.size w2 (w2.alloc (Obj.cells (List.toArray [.int .i64 2, .int .i64 1, .int .i64 1, .int .i64 1, .int .i64 0, .int .i64 2, .int .i64 1]) 26)) from by go_grown).trans (hM.bel.mono (by rw [World.size_alloc]; omega)))
  have HM := Lib.hid hM
  clear hM hB2
  have HO1 := Lib.hid (order_is _ _ w3 B K 2 1 1 1 0 2 1 0 v' _ 1 1 HM.out (by decide) 1 ⟨1, 1, 0, 1, 8, 1, 5, 3, 0, 1, false, false, 5⟩ rfl rfl (fun t o ht ho => by
    obtain rfl : t = 0 := by omega
    obtain rfl := Option.some.inj ho
    rfl))
  go_wp2_with fail
  refine HO1.out.mono ?_
  rintro e w4 ⟨rfl, hb4⟩
  have HM4 := Lib.hid (HM.out.below hb4)
  have hB4 := Below.step hB3 hb4
  have hba := (Below.refl w4.heap.size w4).alloc (Nat.le_refl _) (Obj.cells (List.toArray [.int .i64 1, .int .i64 1, .int .i64 0, .int .i64 1, .int .i64 8, .int .i64 1, .int .i64 5, .int .i64 3, .int .i64 0, .int .i64 1, .bool false, .bool false, .int .i64 5]) 44)
  have HM5 := Lib.hid (HM4.out.below hba)
  have hB5 := Below.step hB4 hba
  have b5 := Bl.new w4 [.int .i64 1, .int .i64 1, .int .i64 0, .int .i64 1, .int .i64 8, .int .i64 1, .int .i64 5, .int .i64 3, .int .i64 0, .int .i64 1, .bool false, .bool false, .int .i64 5] 44
  have HO2 := Lib.hid (order_is _ _ (w4.alloc (Obj.cells (List.toArray [.int .i64 1, .int .i64 1, .int .i64 0, .int .i64 1, .int .i64 8, .int .i64 1, .int .i64 5, .int .i64 3, .int .i64 0, .int .i64 1, .bool false, .bool false, .int .i64 5]) 44)) B K 2 1 1 1 0 2 1 0 v' _ 0 1 HM5.out (by decide) 0 ⟨0, 1, 0, 0, 10, 1, 5, 5, 2, 1, false, false, 0⟩ rfl rfl (fun t o ht ho => absurd ht (Nat.not_lt_zero _)))
  clear hb4 hba
  go_wp2_with fail
  generalize w4.alloc (Obj.cells (List.toArray [.int .i64 1, .int .i64 1, .int .i64 0, .int .i64 1, .int .i64 8, .int .i64 1, .int .i64 5, .int .i64 3, .int .i64 0, .int .i64 1, .bool false, .bool false, .int .i64 5]) 44) = w5 at *
  generalize w4.heap.size = Z4 at *
  refine HO2.out.mono ?_
  rintro e w6 ⟨rfl, hb6⟩
  have hB6 := Below.step hB5 hb6
  have b6 := b5.below hb6
  have hl6 := b6.lt
  have d12 := b6.cell 12 _ rfl
  clear b5 b6 hb6
  go_wp2_with fail
  go_ret
  exact ⟨rfl, hB6.alloc hB6.size _⟩
end Go.Proofs.Ytnhmdaoghcfghaa

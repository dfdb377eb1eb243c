/-
  What cells are called.
-/
import Derived.Test.YtinciphhoieonaaGreatDoorRows
import Derived.Test.YtinciphhoieonaaGreatDoorKit
import Derived.Test.YtinciphhoieonaaGreatDoorApp
import Derived.Test.YtinciphhoieonaaGreatDoorQuiet
import Derived.WalkKit
import Derived.ProofKit
import Derived.OpenShut
import Derived.ShutString
import Derived.Below
import Derived.Outline
import Derived.WalkLawsBesides
import Derived.WalkSpells
import Derived.Handy
import Derived.Deep.QuietTactic
import Derived.BigQuiet
import Derived.RegionTactic
import Derived.ChangeAlike
import Derived.Lib.Hide
import Derived.Laws.Rows
import Derived.Laws.Tables
import Derived.Laws.CopyOwn
import Derived.Laws.MakeOwn
import Derived.Laws.Entries
import Derived.Laws.OwnMore
import Derived.Deep.WholeRow
import Derived.Deep.LoopGhost
import Derived.Deep.AppendLies
import Derived.Deep.Draws
import Derived.Maps.AppendAt
import Derived.OwnWalk
import Derived.Deep.RegionHeld3
import Derived.Deep.Cut
import Derived.Deep.CutRange
import Derived.Deep.DeepCutAuto
import Derived.Deep.CutBlock
import Derived.Lib.SliceRun
import Derived.IntWalk
import Derived.Laws.Strings
import Derived.Lib.Bytealg
import Derived.Lib.Strings
import Derived.Laws.Externs
import Derived.Test.YtinciphhoieonaaGreatDoorAnA
namespace Go.Proofs.YtinciphhoieonaaGreatDoor
open Go.ChangeShapes Go.WideShapes Go.ChangeAt Go.RowKit
theorem loose_2 (w : World) : Calls Tryz.prog 68 #[.agg #[.int .i64 2, .bool false, .int .i64 0, .int .i64 0, .int .i64 0]] w fun e w' => e = .returned (.bool true) ∧ Below w.heap.size w w' := by
  have g := Lib.hid (show Below w.heap.size w (w.alloc (.cells #[.int .i64 2, .bool false, .int .i64 0, .int .i64 0, .int .i64 0] 75)) by go_grown)
  go_enter Tryz.func68, Tryz.ntmps68
  go_wp2_with fail
  go_ret
  exact ⟨rfl, g.out⟩
theorem live_2 (w : World) : Calls Tryz.prog 54 #[.agg #[.int .i64 2, .bool false, .int .i64 0, .int .i64 0, .int .i64 0]] w fun e w' => e = .returned (.bool true) ∧ Below w.heap.size w w' := by
  have g0 : Below w.heap.size w (w.alloc (.cells #[.int .i64 2, .bool false, .int .i64 0, .int .i64 0, .int .i64 0] 75)) := by go_grown
  have b0 := Bl.new w [.int .i64 2, .bool false, .int .i64 0, .int .i64 0, .int .i64 0] 75
  have G := Lib.hid (And.intro g0 b0)
  clear g0 b0
  go_enter Tryz.func54, Tryz.ntmps54
  go_wp2_with fail
  refine (loose_2 _).mono ?_
  rintro e1 w1 ⟨rfl, hb1⟩
  have G1 := Lib.hid (And.intro (Below.step G.out.1 hb1) (G.out.2.below hb1))
  clear hb1
  have y0 := G1.out.2.cell 0 _ rfl
  have y1 := G1.out.2.cell 1 _ rfl
  have y2 := G1.out.2.cell 2 _ rfl
  have y3 := G1.out.2.cell 3 _ rfl
  have y4 := G1.out.2.cell 4 _ rfl
  go_wp2_with fail
  go_ret
  exact ⟨rfl, G1.out.1⟩
theorem kind_2 (w : World) : Calls Tryz.prog 39 #[.agg #[.int .i64 2, .bool false, .int .i64 0, .int .i64 0, .int .i64 0]] w fun e w' => e = .returned (.string (Bs (ln 2))) ∧ Below w.heap.size w w' := by
  have g0 : Below w.heap.size w (w.alloc (.cells #[.int .i64 2, .bool false, .int .i64 0, .int .i64 0, .int .i64 0] 75)) := by go_grown
  have b0 := Bl.new w [.int .i64 2, .bool false, .int .i64 0, .int .i64 0, .int .i64 0] 75
  have G := Lib.hid (And.intro g0 b0)
  clear g0 b0
  go_enter Tryz.func39, Tryz.ntmps39
  go_wp2_with fail
  refine (live_2 _).mono ?_
  rintro e1 w1 ⟨rfl, hb1⟩
  have G1 := Lib.hid (And.intro (Below.step G.out.1 hb1) (G.out.2.below hb1))
  clear hb1
  have y0 := G1.out.2.cell 0 _ rfl
  have y1 := G1.out.2.cell 1 _ rfl
  have y2 := G1.out.2.cell 2 _ rfl
  have y3 := G1.out.2.cell 3 _ rfl
  have y4 := G1.out.2.cell 4 _ rfl
  go_wp2_with fail
  go_ret
  exact ⟨rfl, G1.out.1⟩
theorem look_2 (w : World) : Calls Tryz.prog 24 #[.int .i64 2] w fun e w' => e = .returned (.string (Bs (ln 2))) ∧ Below w.heap.size w w' := by
  go_enter Tryz.func24, Tryz.ntmps24
  go_wp2_with fail
  refine (kind_2 _).mono ?_
  rintro e1 w1 ⟨rfl, hb1⟩
  go_wp2_with fail
  go_ret
  exact ⟨rfl, hb1⟩
theorem loose_3 (w : World) : Calls Tryz.prog 68 #[.agg #[.int .i64 3, .bool false, .int .i64 0, .int .i64 0, .int .i64 0]] w fun e w' => e = .returned (.bool false) ∧ Below w.heap.size w w' := by
  have g := Lib.hid (show Below w.heap.size w (w.alloc (.cells #[.int .i64 3, .bool false, .int .i64 0, .int .i64 0, .int .i64 0] 75)) by go_grown)
  go_enter Tryz.func68, Tryz.ntmps68
  go_wp2_with fail
  go_ret
  exact ⟨rfl, g.out⟩
theorem held_3 (w : World) : Calls Tryz.prog 69 #[.agg #[.int .i64 3, .bool false, .int .i64 0, .int .i64 0, .int .i64 0]] w fun e w' => e = .returned (.bool true) ∧ Below w.heap.size w w' := by
  have g := Lib.hid (show Below w.heap.size w (w.alloc (.cells #[.int .i64 3, .bool false, .int .i64 0, .int .i64 0, .int .i64 0] 75)) by go_grown)
  go_enter Tryz.func69, Tryz.ntmps69
  go_wp2_with fail
  go_ret
  exact ⟨rfl, g.out⟩
theorem live_3 (w : World) : Calls Tryz.prog 54 #[.agg #[.int .i64 3, .bool false, .int .i64 0, .int .i64 0, .int .i64 0]] w fun e w' => e = .returned (.bool true) ∧ Below w.heap.size w w' := by
  have g0 : Below w.heap.size w (w.alloc (.cells #[.int .i64 3, .bool false, .int .i64 0, .int .i64 0, .int .i64 0] 75)) := by go_grown
  have b0 := Bl.new w [.int .i64 3, .bool false, .int .i64 0, .int .i64 0, .int .i64 0] 75
  have G := Lib.hid (And.intro g0 b0)
  clear g0 b0
  go_enter Tryz.func54, Tryz.ntmps54
  go_wp2_with fail
  refine (loose_3 _).mono ?_
  rintro e1 w1 ⟨rfl, hb1⟩
  have G1 := Lib.hid (And.intro (Below.step G.out.1 hb1) (G.out.2.below hb1))
  clear hb1
  have y0 := G1.out.2.cell 0 _ rfl
  have y1 := G1.out.2.cell 1 _ rfl
  have y2 := G1.out.2.cell 2 _ rfl
  have y3 := G1.out.2.cell 3 _ rfl
  have y4 := G1.out.2.cell 4 _ rfl
  go_wp2_with fail
  refine (held_3 _).mono ?_
  rintro e2 w2 ⟨rfl, hb2⟩
  have G2 := Lib.hid (Below.step G1.out.1 hb2)
  clear hb2
  go_wp2_with fail
  go_ret
  exact ⟨rfl, G2.out⟩
theorem kind_3 (w : World) : Calls Tryz.prog 39 #[.agg #[.int .i64 3, .bool false, .int .i64 0, .int .i64 0, .int .i64 0]] w fun e w' => e = .returned (.string (Bs (ln 3))) ∧ Below w.heap.size w w' := by
  have g0 : Below w.heap.size w (w.alloc (.cells #[.int .i64 3, .bool false, .int .i64 0, .int .i64 0, .int .i64 0] 75)) := by go_grown
  have b0 := Bl.new w [.int .i64 3, .bool false, .int .i64 0, .int .i64 0, .int .i64 0] 75
  have G := Lib.hid (And.intro g0 b0)
  clear g0 b0
  go_enter Tryz.func39, Tryz.ntmps39
  go_wp2_with fail
  refine (live_3 _).mono ?_
  rintro e1 w1 ⟨rfl, hb1⟩
  have G1 := Lib.hid (And.intro (Below.step G.out.1 hb1) (G.out.2.below hb1))
  clear hb1
  have y0 := G1.out.2.cell 0 _ rfl
  have y1 := G1.out.2.cell 1 _ rfl
  have y2 := G1.out.2.cell 2 _ rfl
  have y3 := G1.out.2.cell 3 _ rfl
  have y4 := G1.out.2.cell 4 _ rfl
  go_wp2_with fail
  go_ret
  exact ⟨rfl, G1.out.1⟩
theorem look_3 (w : World) : Calls Tryz.prog 24 #[.int .i64 3] w fun e w' => e = .returned (.string (Bs (ln 3))) ∧ Below w.heap.size w w' := by
  go_enter Tryz.func24, Tryz.ntmps24
  go_wp2_with fail
  refine (kind_3 _).mono ?_
  rintro e1 w1 ⟨rfl, hb1⟩
  go_wp2_with fail
  go_ret
  exact ⟨rfl, hb1⟩
theorem loose_4 (w : World) : Calls Tryz.prog 68 #[.agg #[.int .i64 4, .bool false, .int .i64 0, .int .i64 0, .int .i64 0]] w fun e w' => e = .returned (.bool false) ∧ Below w.heap.size w w' := by
  have g := Lib.hid (show Below w.heap.size w (w.alloc (.cells #[.int .i64 4, .bool false, .int .i64 0, .int .i64 0, .int .i64 0] 75)) by go_grown)
  go_enter Tryz.func68, Tryz.ntmps68
  go_wp2_with fail
  go_ret
  exact ⟨rfl, g.out⟩
theorem held_4 (w : World) : Calls Tryz.prog 69 #[.agg #[.int .i64 4, .bool false, .int .i64 0, .int .i64 0, .int .i64 0]] w fun e w' => e = .returned (.bool true) ∧ Below w.heap.size w w' := by
  have g := Lib.hid (show Below w.heap.size w (w.alloc (.cells #[.int .i64 4, .bool false, .int .i64 0, .int .i64 0, .int .i64 0] 75)) by go_grown)
  go_enter Tryz.func69, Tryz.ntmps69
  go_wp2_with fail
  go_ret
  exact ⟨rfl, g.out⟩
theorem live_4 (w : World) : Calls Tryz.prog 54 #[.agg #[.int .i64 4, .bool false, .int .i64 0, .int .i64 0, .int .i64 0]] w fun e w' => e = .returned (.bool true) ∧ Below w.heap.size w w' := by
  have g0 : Below w.heap.size w (w.alloc (.cells #[.int .i64 4, .bool false, .int .i64 0, .int .i64 0, .int .i64 0] 75)) := by go_grown
  have b0 := Bl.new w [.int .i64 4, .bool false, .int .i64 0, .int .i64 0, .int .i64 0] 75
  have G := Lib.hid (And.intro g0 b0)
  clear g0 b0
  go_enter Tryz.func54, Tryz.ntmps54
  go_wp2_with fail
  refine (loose_4 _).mono ?_
  rintro e1 w1 ⟨rfl, hb1⟩
  have G1 := Lib.hid (And.intro (Below.step G.out.1 hb1) (G.out.2.below hb1))
  clear hb1
  have y0 := G1.out.2.cell 0 _ rfl
  have y1 := G1.out.2.cell 1 _ rfl
  have y2 := G1.out.2.cell 2 _ rfl
  have y3 := G1.out.2.cell 3 _ rfl
  have y4 := G1.out.2.cell 4 _ rfl
  go_wp2_with fail
  refine (held_4 _).mono ?_
  rintro e2 w2 ⟨rfl, hb2⟩
  have G2 := Lib.hid (Below.step G1.out.1 hb2)
  clear hb2
  go_wp2_with fail
  go_ret
  exact ⟨rfl, G2.out⟩
theorem kind_4 (w : World) : Calls Tryz.prog 39 #[.agg #[.int .i64 4, .bool false, .int .i64 0, .int .i64 0, .int .i64 0]] w fun e w' => e = .returned (.string (Bs (ln 4))) ∧ Below w.heap.size w w' := by
  have g0 : Below w.heap.size w (w.alloc (.cells #[.int .i64 4, .bool false, .int .i64 0, .int .i64 0, .int .i64 0] 75)) := by go_grown
  have b0 := Bl.new w [.int .i64 4, .bool false, .int .i64 0, .int .i64 0, .int .i64 0] 75
  have G := Lib.hid (And.intro g0 b0)
  clear g0 b0
  go_enter Tryz.func39, Tryz.ntmps39
  go_wp2_with fail
  refine (live_4 _).mono ?_
  rintro e1 w1 ⟨rfl, hb1⟩
  have G1 := Lib.hid (And.intro (Below.step G.out.1 hb1) (G.out.2.below hb1))
  clear hb1
  have y0 := G1.out.2.cell 0 _ rfl
  have y1 := G1.out.2.cell 1 _ rfl
  have y2 := G1.out.2.cell 2 _ rfl
  have y3 := G1.out.2.cell 3 _ rfl
  have y4 := G1.out.2.cell 4 _ rfl
  go_wp2_with fail
  go_ret
  exact ⟨rfl, G1.out.1⟩
theorem look_4 (w : World) : Calls Tryz.prog 24 #[.int .i64 4] w fun e w' => e = .returned (.string (Bs (ln 4))) ∧ Below w.heap.size w w' := by
  go_enter Tryz.func24, Tryz.ntmps24
  go_wp2_with fail
  refine (kind_4 _).mono ?_
  rintro e1 w1 ⟨rfl, hb1⟩
  go_wp2_with fail
  go_ret
  exact ⟨rfl, hb1⟩
theorem look_any (k : Int) (hk : 0 ≤ k ∧ k ≤ 8) (w : World) : Calls Tryz.prog 24 #[.int .i64 k] w fun e w' => e = .returned (.string (Bs (ln k))) ∧ Below w.heap.size w w' := by
  rcases (show k = 0 ∨ k = 1 ∨ k = 2 ∨ k = 3 ∨ k = 4 ∨ k = 5 ∨ k = 6 ∨ k = 7 ∨ k = 8 by omega) with rfl | rfl | rfl | rfl | rfl | rfl | rfl | rfl | rfl
  · exact look_0 w
  · exact look_1 w
  · exact look_2 w
  · exact look_3 w
  · exact look_4 w
  · exact look_5 w
  · exact look_6 w
  · exact look_7 w
  · exact look_8 w

end Go.Proofs.YtinciphhoieonaaGreatDoor

/-
  What kinds are called; numbers that may be told.
-/
import Derived.Test.YtinciphhoieonaaGreatDoorRows
import Derived.Test.YtinciphhoieonaaGreatDoorKit
import Derived.Test.YtinciphhoieonaaGreatDoorApp
import Derived.Test.YtinciphhoieonaaGreatDoorQuiet
import Derived.WalkKit
import Derived.ProofKit
import Derived.OpenShut
import Derived.ShutString
import Derived.Below
import Derived.Outline
import Derived.WalkLawsBesides
import Derived.WalkSpells
import Derived.Handy
import Derived.Deep.QuietTactic
import Derived.BigQuiet
import Derived.RegionTactic
import Derived.ChangeAlike
import Derived.Lib.Hide
import Derived.Laws.Rows
import Derived.Laws.Tables
import Derived.Laws.CopyOwn
import Derived.Laws.MakeOwn
import Derived.Laws.Entries
import Derived.Laws.OwnMore
import Derived.Deep.WholeRow
import Derived.Deep.LoopGhost
import Derived.Deep.AppendLies
import Derived.Deep.Draws
import Derived.Maps.AppendAt
import Derived.OwnWalk
import Derived.Deep.RegionHeld3
import Derived.Deep.Cut
import Derived.Deep.CutRange
import Derived.Deep.DeepCutAuto
import Derived.Deep.CutBlock
import Derived.Lib.SliceRun
import Derived.IntWalk
import Derived.Laws.Strings
import Derived.Lib.Bytealg
import Derived.Lib.Strings
import Derived.Laws.Externs
import Derived.Test.YtinciphhoieonaaGreatDoorAnN
import Derived.Test.YtinciphhoieonaaGreatDoorAnJ
import Derived.Test.YtinciphhoieonaaGreatDoorLnK
namespace Go.Proofs.YtinciphhoieonaaGreatDoor
open Go.ChangeShapes Go.WideShapes Go.ChangeAt Go.RowKit
theorem verb_is (k : Int) (hk : 1 ≤ k ∧ k ≤ 4) (w : World) (hv : Vb w) : Calls Tryz.prog 22 #[.int .i64 k] w fun e w' => e = .returned (.string (vb k.toNat)) ∧ w = w' := by
  obtain ⟨n, rfl⟩ : ∃ n : Nat, k = (n : Int) := ⟨k.toNat, by omega⟩
  have hc := hv.cell n (by omega)
  have h1 : (1 : Int) ≤ (n : Int) := hk.1
  have h2 : (n : Int) ≤ 4 := hk.2
  rw [Int.toNat_natCast]
  generalize vb n = V at hc ⊢
  clear hk hv
  go_enter Tryz.func22, Tryz.ntmps22
  go_wp2_with fail
  go_ret
  exact ⟨rfl, rfl⟩
theorem verb_bs (k : Int) (hk : 1 ≤ k ∧ k ≤ 4) (w : World) (hv : Vb w) : Calls Tryz.prog 22 #[.int .i64 k] w fun e w' => e = .returned (.string (Bs (vbl k))) ∧ w = w' := by
  unfold vbl
  rw [Bs_of]
  exact verb_is k hk w hv
theorem rname_0 (w : World) : Calls Tryz.prog 23 #[.int .i64 0] w fun e w' => e = .returned (.string (Bs (rn 0))) ∧ w = w' := by
  go_enter Tryz.func23, Tryz.ntmps23
  go_wp2_with fail
  go_ret
  exact ⟨rfl, rfl⟩
theorem rname_1 (w : World) : Calls Tryz.prog 23 #[.int .i64 1] w fun e w' => e = .returned (.string (Bs (rn 1))) ∧ w = w' := by
  go_enter Tryz.func23, Tryz.ntmps23
  go_wp2_with fail
  go_ret
  exact ⟨rfl, rfl⟩
theorem rname_2 (w : World) : Calls Tryz.prog 23 #[.int .i64 2] w fun e w' => e = .returned (.string (Bs (rn 2))) ∧ w = w' := by
  go_enter Tryz.func23, Tryz.ntmps23
  go_wp2_with fail
  go_ret
  exact ⟨rfl, rfl⟩
theorem rname_3 (w : World) : Calls Tryz.prog 23 #[.int .i64 3] w fun e w' => e = .returned (.string (Bs (rn 3))) ∧ w = w' := by
  go_enter Tryz.func23, Tryz.ntmps23
  go_wp2_with fail
  go_ret
  exact ⟨rfl, rfl⟩
theorem rname_4 (w : World) : Calls Tryz.prog 23 #[.int .i64 4] w fun e w' => e = .returned (.string (Bs (rn 4))) ∧ w = w' := by
  go_enter Tryz.func23, Tryz.ntmps23
  go_wp2_with fail
  go_ret
  exact ⟨rfl, rfl⟩
theorem rname_5 (w : World) : Calls Tryz.prog 23 #[.int .i64 5] w fun e w' => e = .returned (.string (Bs (rn 5))) ∧ w = w' := by
  go_enter Tryz.func23, Tryz.ntmps23
  go_wp2_with fail
  go_ret
  exact ⟨rfl, rfl⟩
theorem rname_is (k : Int) (hk : 0 ≤ k ∧ k ≤ 5) (w : World) : Calls Tryz.prog 23 #[.int .i64 k] w fun e w' => e = .returned (.string (Bs (rn k))) ∧ w = w' := by
  rcases (show k = 0 ∨ k = 1 ∨ k = 2 ∨ k = 3 ∨ k = 4 ∨ k = 5 by omega) with rfl | rfl | rfl | rfl | rfl | rfl
  · exact rname_0 w
  · exact rname_1 w
  · exact rname_2 w
  · exact rname_3 w
  · exact rname_4 w
  · exact rname_5 w
theorem loose_0 (w : World) : Calls Tryz.prog 68 #[.agg #[.int .i64 0, .bool false, .int .i64 0, .int .i64 0, .int .i64 0]] w fun e w' => e = .returned (.bool false) ∧ Below w.heap.size w w' := by
  have g := Lib.hid (show Below w.heap.size w (w.alloc (.cells #[.int .i64 0, .bool false, .int .i64 0, .int .i64 0, .int .i64 0] 75)) by go_grown)
  go_enter Tryz.func68, Tryz.ntmps68
  go_wp2_with fail
  go_ret
  exact ⟨rfl, g.out⟩
theorem held_0 (w : World) : Calls Tryz.prog 69 #[.agg #[.int .i64 0, .bool false, .int .i64 0, .int .i64 0, .int .i64 0]] w fun e w' => e = .returned (.bool false) ∧ Below w.heap.size w w' := by
  have g := Lib.hid (show Below w.heap.size w (w.alloc (.cells #[.int .i64 0, .bool false, .int .i64 0, .int .i64 0, .int .i64 0] 75)) by go_grown)
  go_enter Tryz.func69, Tryz.ntmps69
  go_wp2_with fail
  go_ret
  exact ⟨rfl, g.out⟩
theorem live_0 (w : World) : Calls Tryz.prog 54 #[.agg #[.int .i64 0, .bool false, .int .i64 0, .int .i64 0, .int .i64 0]] w fun e w' => e = .returned (.bool false) ∧ Below w.heap.size w w' := by
  have g0 : Below w.heap.size w (w.alloc (.cells #[.int .i64 0, .bool false, .int .i64 0, .int .i64 0, .int .i64 0] 75)) := by go_grown
  have b0 := Bl.new w [.int .i64 0, .bool false, .int .i64 0, .int .i64 0, .int .i64 0] 75
  have G := Lib.hid (And.intro g0 b0)
  clear g0 b0
  go_enter Tryz.func54, Tryz.ntmps54
  go_wp2_with fail
  refine (loose_0 _).mono ?_
  rintro e1 w1 ⟨rfl, hb1⟩
  have G1 := Lib.hid (And.intro (Below.step G.out.1 hb1) (G.out.2.below hb1))
  clear hb1
  have y0 := G1.out.2.cell 0 _ rfl
  have y1 := G1.out.2.cell 1 _ rfl
  have y2 := G1.out.2.cell 2 _ rfl
  have y3 := G1.out.2.cell 3 _ rfl
  have y4 := G1.out.2.cell 4 _ rfl
  go_wp2_with fail
  refine (held_0 _).mono ?_
  rintro e2 w2 ⟨rfl, hb2⟩
  have G2 := Lib.hid (Below.step G1.out.1 hb2)
  clear hb2
  go_wp2_with fail
  go_ret
  exact ⟨rfl, G2.out⟩
theorem kind_0 (w : World) : Calls Tryz.prog 39 #[.agg #[.int .i64 0, .bool false, .int .i64 0, .int .i64 0, .int .i64 0]] w fun e w' => e = .returned (.string (Bs (ln 0))) ∧ Below w.heap.size w w' := by
  have g0 : Below w.heap.size w (w.alloc (.cells #[.int .i64 0, .bool false, .int .i64 0, .int .i64 0, .int .i64 0] 75)) := by go_grown
  have b0 := Bl.new w [.int .i64 0, .bool false, .int .i64 0, .int .i64 0, .int .i64 0] 75
  have G := Lib.hid (And.intro g0 b0)
  clear g0 b0
  go_enter Tryz.func39, Tryz.ntmps39
  go_wp2_with fail
  refine (live_0 _).mono ?_
  rintro e1 w1 ⟨rfl, hb1⟩
  have G1 := Lib.hid (And.intro (Below.step G.out.1 hb1) (G.out.2.below hb1))
  clear hb1
  have y0 := G1.out.2.cell 0 _ rfl
  have y1 := G1.out.2.cell 1 _ rfl
  have y2 := G1.out.2.cell 2 _ rfl
  have y3 := G1.out.2.cell 3 _ rfl
  have y4 := G1.out.2.cell 4 _ rfl
  go_wp2_with fail
  go_ret
  exact ⟨rfl, G1.out.1⟩
theorem look_0 (w : World) : Calls Tryz.prog 24 #[.int .i64 0] w fun e w' => e = .returned (.string (Bs (ln 0))) ∧ Below w.heap.size w w' := by
  go_enter Tryz.func24, Tryz.ntmps24
  go_wp2_with fail
  refine (kind_0 _).mono ?_
  rintro e1 w1 ⟨rfl, hb1⟩
  go_wp2_with fail
  go_ret
  exact ⟨rfl, hb1⟩
theorem loose_1 (w : World) : Calls Tryz.prog 68 #[.agg #[.int .i64 1, .bool false, .int .i64 0, .int .i64 0, .int .i64 0]] w fun e w' => e = .returned (.bool true) ∧ Below w.heap.size w w' := by
  have g := Lib.hid (show Below w.heap.size w (w.alloc (.cells #[.int .i64 1, .bool false, .int .i64 0, .int .i64 0, .int .i64 0] 75)) by go_grown)
  go_enter Tryz.func68, Tryz.ntmps68
  go_wp2_with fail
  go_ret
  exact ⟨rfl, g.out⟩
theorem live_1 (w : World) : Calls Tryz.prog 54 #[.agg #[.int .i64 1, .bool false, .int .i64 0, .int .i64 0, .int .i64 0]] w fun e w' => e = .returned (.bool true) ∧ Below w.heap.size w w' := by
  have g0 : Below w.heap.size w (w.alloc (.cells #[.int .i64 1, .bool false, .int .i64 0, .int .i64 0, .int .i64 0] 75)) := by go_grown
  have b0 := Bl.new w [.int .i64 1, .bool false, .int .i64 0, .int .i64 0, .int .i64 0] 75
  have G := Lib.hid (And.intro g0 b0)
  clear g0 b0
  go_enter Tryz.func54, Tryz.ntmps54
  go_wp2_with fail
  refine (loose_1 _).mono ?_
  rintro e1 w1 ⟨rfl, hb1⟩
  have G1 := Lib.hid (And.intro (Below.step G.out.1 hb1) (G.out.2.below hb1))
  clear hb1
  have y0 := G1.out.2.cell 0 _ rfl
  have y1 := G1.out.2.cell 1 _ rfl
  have y2 := G1.out.2.cell 2 _ rfl
  have y3 := G1.out.2.cell 3 _ rfl
  have y4 := G1.out.2.cell 4 _ rfl
  go_wp2_with fail
  go_ret
  exact ⟨rfl, G1.out.1⟩
theorem kind_1 (w : World) : Calls Tryz.prog 39 #[.agg #[.int .i64 1, .bool false, .int .i64 0, .int .i64 0, .int .i64 0]] w fun e w' => e = .returned (.string (Bs (ln 1))) ∧ Below w.heap.size w w' := by
  have g0 : Below w.heap.size w (w.alloc (.cells #[.int .i64 1, .bool false, .int .i64 0, .int .i64 0, .int .i64 0] 75)) := by go_grown
  have b0 := Bl.new w [.int .i64 1, .bool false, .int .i64 0, .int .i64 0, .int .i64 0] 75
  have G := Lib.hid (And.intro g0 b0)
  clear g0 b0
  go_enter Tryz.func39, Tryz.ntmps39
  go_wp2_with fail
  refine (live_1 _).mono ?_
  rintro e1 w1 ⟨rfl, hb1⟩
  have G1 := Lib.hid (And.intro (Below.step G.out.1 hb1) (G.out.2.below hb1))
  clear hb1
  have y0 := G1.out.2.cell 0 _ rfl
  have y1 := G1.out.2.cell 1 _ rfl
  have y2 := G1.out.2.cell 2 _ rfl
  have y3 := G1.out.2.cell 3 _ rfl
  have y4 := G1.out.2.cell 4 _ rfl
  go_wp2_with fail
  go_ret
  exact ⟨rfl, G1.out.1⟩
theorem look_1 (w : World) : Calls Tryz.prog 24 #[.int .i64 1] w fun e w' => e = .returned (.string (Bs (ln 1))) ∧ Below w.heap.size w w' := by
  go_enter Tryz.func24, Tryz.ntmps24
  go_wp2_with fail
  refine (kind_1 _).mono ?_
  rintro e1 w1 ⟨rfl, hb1⟩
  go_wp2_with fail
  go_ret
  exact ⟨rfl, hb1⟩
theorem loose_5 (w : World) : Calls Tryz.prog 68 #[.agg #[.int .i64 5, .bool false, .int .i64 0, .int .i64 0, .int .i64 0]] w fun e w' => e = .returned (.bool false) ∧ Below w.heap.size w w' := by
  have g := Lib.hid (show Below w.heap.size w (w.alloc (.cells #[.int .i64 5, .bool false, .int .i64 0, .int .i64 0, .int .i64 0] 75)) by go_grown)
  go_enter Tryz.func68, Tryz.ntmps68
  go_wp2_with fail
  go_ret
  exact ⟨rfl, g.out⟩
theorem held_5 (w : World) : Calls Tryz.prog 69 #[.agg #[.int .i64 5, .bool false, .int .i64 0, .int .i64 0, .int .i64 0]] w fun e w' => e = .returned (.bool false) ∧ Below w.heap.size w w' := by
  have g := Lib.hid (show Below w.heap.size w (w.alloc (.cells #[.int .i64 5, .bool false, .int .i64 0, .int .i64 0, .int .i64 0] 75)) by go_grown)
  go_enter Tryz.func69, Tryz.ntmps69
  go_wp2_with fail
  go_ret
  exact ⟨rfl, g.out⟩
theorem live_5 (w : World) : Calls Tryz.prog 54 #[.agg #[.int .i64 5, .bool false, .int .i64 0, .int .i64 0, .int .i64 0]] w fun e w' => e = .returned (.bool false) ∧ Below w.heap.size w w' := by
  have g0 : Below w.heap.size w (w.alloc (.cells #[.int .i64 5, .bool false, .int .i64 0, .int .i64 0, .int .i64 0] 75)) := by go_grown
  have b0 := Bl.new w [.int .i64 5, .bool false, .int .i64 0, .int .i64 0, .int .i64 0] 75
  have G := Lib.hid (And.intro g0 b0)
  clear g0 b0
  go_enter Tryz.func54, Tryz.ntmps54
  go_wp2_with fail
  refine (loose_5 _).mono ?_
  rintro e1 w1 ⟨rfl, hb1⟩
  have G1 := Lib.hid (And.intro (Below.step G.out.1 hb1) (G.out.2.below hb1))
  clear hb1
  have y0 := G1.out.2.cell 0 _ rfl
  have y1 := G1.out.2.cell 1 _ rfl
  have y2 := G1.out.2.cell 2 _ rfl
  have y3 := G1.out.2.cell 3 _ rfl
  have y4 := G1.out.2.cell 4 _ rfl
  go_wp2_with fail
  refine (held_5 _).mono ?_
  rintro e2 w2 ⟨rfl, hb2⟩
  have G2 := Lib.hid (Below.step G1.out.1 hb2)
  clear hb2
  go_wp2_with fail
  go_ret
  exact ⟨rfl, G2.out⟩
theorem kind_5 (w : World) : Calls Tryz.prog 39 #[.agg #[.int .i64 5, .bool false, .int .i64 0, .int .i64 0, .int .i64 0]] w fun e w' => e = .returned (.string (Bs (ln 5))) ∧ Below w.heap.size w w' := by
  have g0 : Below w.heap.size w (w.alloc (.cells #[.int .i64 5, .bool false, .int .i64 0, .int .i64 0, .int .i64 0] 75)) := by go_grown
  have b0 := Bl.new w [.int .i64 5, .bool false, .int .i64 0, .int .i64 0, .int .i64 0] 75
  have G := Lib.hid (And.intro g0 b0)
  clear g0 b0
  go_enter Tryz.func39, Tryz.ntmps39
  go_wp2_with fail
  refine (live_5 _).mono ?_
  rintro e1 w1 ⟨rfl, hb1⟩
  have G1 := Lib.hid (And.intro (Below.step G.out.1 hb1) (G.out.2.below hb1))
  clear hb1
  have y0 := G1.out.2.cell 0 _ rfl
  have y1 := G1.out.2.cell 1 _ rfl
  have y2 := G1.out.2.cell 2 _ rfl
  have y3 := G1.out.2.cell 3 _ rfl
  have y4 := G1.out.2.cell 4 _ rfl
  go_wp2_with fail
  go_ret
  exact ⟨rfl, G1.out.1⟩
theorem look_5 (w : World) : Calls Tryz.prog 24 #[.int .i64 5] w fun e w' => e = .returned (.string (Bs (ln 5))) ∧ Below w.heap.size w w' := by
  go_enter Tryz.func24, Tryz.ntmps24
  go_wp2_with fail
  refine (kind_5 _).mono ?_
  rintro e1 w1 ⟨rfl, hb1⟩
  go_wp2_with fail
  go_ret
  exact ⟨rfl, hb1⟩
theorem loose_6 (w : World) : Calls Tryz.prog 68 #[.agg #[.int .i64 6, .bool false, .int .i64 0, .int .i64 0, .int .i64 0]] w fun e w' => e = .returned (.bool false) ∧ Below w.heap.size w w' := by
  have g := Lib.hid (show Below w.heap.size w (w.alloc (.cells #[.int .i64 6, .bool false, .int .i64 0, .int .i64 0, .int .i64 0] 75)) by go_grown)
  go_enter Tryz.func68, Tryz.ntmps68
  go_wp2_with fail
  go_ret
  exact ⟨rfl, g.out⟩
theorem held_6 (w : World) : Calls Tryz.prog 69 #[.agg #[.int .i64 6, .bool false, .int .i64 0, .int .i64 0, .int .i64 0]] w fun e w' => e = .returned (.bool false) ∧ Below w.heap.size w w' := by
  have g := Lib.hid (show Below w.heap.size w (w.alloc (.cells #[.int .i64 6, .bool false, .int .i64 0, .int .i64 0, .int .i64 0] 75)) by go_grown)
  go_enter Tryz.func69, Tryz.ntmps69
  go_wp2_with fail
  go_ret
  exact ⟨rfl, g.out⟩
theorem live_6 (w : World) : Calls Tryz.prog 54 #[.agg #[.int .i64 6, .bool false, .int .i64 0, .int .i64 0, .int .i64 0]] w fun e w' => e = .returned (.bool false) ∧ Below w.heap.size w w' := by
  have g0 : Below w.heap.size w (w.alloc (.cells #[.int .i64 6, .bool false, .int .i64 0, .int .i64 0, .int .i64 0] 75)) := by go_grown
  have b0 := Bl.new w [.int .i64 6, .bool false, .int .i64 0, .int .i64 0, .int .i64 0] 75
  have G := Lib.hid (And.intro g0 b0)
  clear g0 b0
  go_enter Tryz.func54, Tryz.ntmps54
  go_wp2_with fail
  refine (loose_6 _).mono ?_
  rintro e1 w1 ⟨rfl, hb1⟩
  have G1 := Lib.hid (And.intro (Below.step G.out.1 hb1) (G.out.2.below hb1))
  clear hb1
  have y0 := G1.out.2.cell 0 _ rfl
  have y1 := G1.out.2.cell 1 _ rfl
  have y2 := G1.out.2.cell 2 _ rfl
  have y3 := G1.out.2.cell 3 _ rfl
  have y4 := G1.out.2.cell 4 _ rfl
  go_wp2_with fail
  refine (held_6 _).mono ?_
  rintro e2 w2 ⟨rfl, hb2⟩
  have G2 := Lib.hid (Below.step G1.out.1 hb2)
  clear hb2
  go_wp2_with fail
  go_ret
  exact ⟨rfl, G2.out⟩
theorem kind_6 (w : World) : Calls Tryz.prog 39 #[.agg #[.int .i64 6, .bool false, .int .i64 0, .int .i64 0, .int .i64 0]] w fun e w' => e = .returned (.string (Bs (ln 6))) ∧ Below w.heap.size w w' := by
  have g0 : Below w.heap.size w (w.alloc (.cells #[.int .i64 6, .bool false, .int .i64 0, .int .i64 0, .int .i64 0] 75)) := by go_grown
  have b0 := Bl.new w [.int .i64 6, .bool false, .int .i64 0, .int .i64 0, .int .i64 0] 75
  have G := Lib.hid (And.intro g0 b0)
  clear g0 b0
  go_enter Tryz.func39, Tryz.ntmps39
  go_wp2_with fail
  refine (live_6 _).mono ?_
  rintro e1 w1 ⟨rfl, hb1⟩
  have G1 := Lib.hid (And.intro (Below.step G.out.1 hb1) (G.out.2.below hb1))
  clear hb1
  have y0 := G1.out.2.cell 0 _ rfl
  have y1 := G1.out.2.cell 1 _ rfl
  have y2 := G1.out.2.cell 2 _ rfl
  have y3 := G1.out.2.cell 3 _ rfl
  have y4 := G1.out.2.cell 4 _ rfl
  go_wp2_with fail
  go_ret
  exact ⟨rfl, G1.out.1⟩
theorem look_6 (w : World) : Calls Tryz.prog 24 #[.int .i64 6] w fun e w' => e = .returned (.string (Bs (ln 6))) ∧ Below w.heap.size w w' := by
  go_enter Tryz.func24, Tryz.ntmps24
  go_wp2_with fail
  refine (kind_6 _).mono ?_
  rintro e1 w1 ⟨rfl, hb1⟩
  go_wp2_with fail
  go_ret
  exact ⟨rfl, hb1⟩
theorem loose_7 (w : World) : Calls Tryz.prog 68 #[.agg #[.int .i64 7, .bool false, .int .i64 0, .int .i64 0, .int .i64 0]] w fun e w' => e = .returned (.bool false) ∧ Below w.heap.size w w' := by
  have g := Lib.hid (show Below w.heap.size w (w.alloc (.cells #[.int .i64 7, .bool false, .int .i64 0, .int .i64 0, .int .i64 0] 75)) by go_grown)
  go_enter Tryz.func68, Tryz.ntmps68
  go_wp2_with fail
  go_ret
  exact ⟨rfl, g.out⟩
theorem held_7 (w : World) : Calls Tryz.prog 69 #[.agg #[.int .i64 7, .bool false, .int .i64 0, .int .i64 0, .int .i64 0]] w fun e w' => e = .returned (.bool false) ∧ Below w.heap.size w w' := by
  have g := Lib.hid (show Below w.heap.size w (w.alloc (.cells #[.int .i64 7, .bool false, .int .i64 0, .int .i64 0, .int .i64 0] 75)) by go_grown)
  go_enter Tryz.func69, Tryz.ntmps69
  go_wp2_with fail
  go_ret
  exact ⟨rfl, g.out⟩
theorem live_7 (w : World) : Calls Tryz.prog 54 #[.agg #[.int .i64 7, .bool false, .int .i64 0, .int .i64 0, .int .i64 0]] w fun e w' => e = .returned (.bool false) ∧ Below w.heap.size w w' := by
  have g0 : Below w.heap.size w (w.alloc (.cells #[.int .i64 7, .bool false, .int .i64 0, .int .i64 0, .int .i64 0] 75)) := by go_grown
  have b0 := Bl.new w [.int .i64 7, .bool false, .int .i64 0, .int .i64 0, .int .i64 0] 75
  have G := Lib.hid (And.intro g0 b0)
  clear g0 b0
  go_enter Tryz.func54, Tryz.ntmps54
  go_wp2_with fail
  refine (loose_7 _).mono ?_
  rintro e1 w1 ⟨rfl, hb1⟩
  have G1 := Lib.hid (And.intro (Below.step G.out.1 hb1) (G.out.2.below hb1))
  clear hb1
  have y0 := G1.out.2.cell 0 _ rfl
  have y1 := G1.out.2.cell 1 _ rfl
  have y2 := G1.out.2.cell 2 _ rfl
  have y3 := G1.out.2.cell 3 _ rfl
  have y4 := G1.out.2.cell 4 _ rfl
  go_wp2_with fail
  refine (held_7 _).mono ?_
  rintro e2 w2 ⟨rfl, hb2⟩
  have G2 := Lib.hid (Below.step G1.out.1 hb2)
  clear hb2
  go_wp2_with fail
  go_ret
  exact ⟨rfl, G2.out⟩
theorem kind_7 (w : World) : Calls Tryz.prog 39 #[.agg #[.int .i64 7, .bool false, .int .i64 0, .int .i64 0, .int .i64 0]] w fun e w' => e = .returned (.string (Bs (ln 7))) ∧ Below w.heap.size w w' := by
  have g0 : Below w.heap.size w (w.alloc (.cells #[.int .i64 7, .bool false, .int .i64 0, .int .i64 0, .int .i64 0] 75)) := by go_grown
  have b0 := Bl.new w [.int .i64 7, .bool false, .int .i64 0, .int .i64 0, .int .i64 0] 75
  have G := Lib.hid (And.intro g0 b0)
  clear g0 b0
  go_enter Tryz.func39, Tryz.ntmps39
  go_wp2_with fail
  refine (live_7 _).mono ?_
  rintro e1 w1 ⟨rfl, hb1⟩
  have G1 := Lib.hid (And.intro (Below.step G.out.1 hb1) (G.out.2.below hb1))
  clear hb1
  have y0 := G1.out.2.cell 0 _ rfl
  have y1 := G1.out.2.cell 1 _ rfl
  have y2 := G1.out.2.cell 2 _ rfl
  have y3 := G1.out.2.cell 3 _ rfl
  have y4 := G1.out.2.cell 4 _ rfl
  go_wp2_with fail
  go_ret
  exact ⟨rfl, G1.out.1⟩
theorem look_7 (w : World) : Calls Tryz.prog 24 #[.int .i64 7] w fun e w' => e = .returned (.string (Bs (ln 7))) ∧ Below w.heap.size w w' := by
  go_enter Tryz.func24, Tryz.ntmps24
  go_wp2_with fail
  refine (kind_7 _).mono ?_
  rintro e1 w1 ⟨rfl, hb1⟩
  go_wp2_with fail
  go_ret
  exact ⟨rfl, hb1⟩
theorem loose_8 (w : World) : Calls Tryz.prog 68 #[.agg #[.int .i64 8, .bool false, .int .i64 0, .int .i64 0, .int .i64 0]] w fun e w' => e = .returned (.bool false) ∧ Below w.heap.size w w' := by
  have g := Lib.hid (show Below w.heap.size w (w.alloc (.cells #[.int .i64 8, .bool false, .int .i64 0, .int .i64 0, .int .i64 0] 75)) by go_grown)
  go_enter Tryz.func68, Tryz.ntmps68
  go_wp2_with fail
  go_ret
  exact ⟨rfl, g.out⟩
theorem held_8 (w : World) : Calls Tryz.prog 69 #[.agg #[.int .i64 8, .bool false, .int .i64 0, .int .i64 0, .int .i64 0]] w fun e w' => e = .returned (.bool false) ∧ Below w.heap.size w w' := by
  have g := Lib.hid (show Below w.heap.size w (w.alloc (.cells #[.int .i64 8, .bool false, .int .i64 0, .int .i64 0, .int .i64 0] 75)) by go_grown)
  go_enter Tryz.func69, Tryz.ntmps69
  go_wp2_with fail
  go_ret
  exact ⟨rfl, g.out⟩
theorem live_8 (w : World) : Calls Tryz.prog 54 #[.agg #[.int .i64 8, .bool false, .int .i64 0, .int .i64 0, .int .i64 0]] w fun e w' => e = .returned (.bool false) ∧ Below w.heap.size w w' := by
  have g0 : Below w.heap.size w (w.alloc (.cells #[.int .i64 8, .bool false, .int .i64 0, .int .i64 0, .int .i64 0] 75)) := by go_grown
  have b0 := Bl.new w [.int .i64 8, .bool false, .int .i64 0, .int .i64 0, .int .i64 0] 75
  have G := Lib.hid (And.intro g0 b0)
  clear g0 b0
  go_enter Tryz.func54, Tryz.ntmps54
  go_wp2_with fail
  refine (loose_8 _).mono ?_
  rintro e1 w1 ⟨rfl, hb1⟩
  have G1 := Lib.hid (And.intro (Below.step G.out.1 hb1) (G.out.2.below hb1))
  clear hb1
  have y0 := G1.out.2.cell 0 _ rfl
  have y1 := G1.out.2.cell 1 _ rfl
  have y2 := G1.out.2.cell 2 _ rfl
  have y3 := G1.out.2.cell 3 _ rfl
  have y4 := G1.out.2.cell 4 _ rfl
  go_wp2_with fail
  refine (held_8 _).mono ?_
  rintro e2 w2 ⟨rfl, hb2⟩
  have G2 := Lib.hid (Below.step G1.out.1 hb2)
  clear hb2
  go_wp2_with fail
  go_ret
  exact ⟨rfl, G2.out⟩
theorem kind_8 (w : World) : Calls Tryz.prog 39 #[.agg #[.int .i64 8, .bool false, .int .i64 0, .int .i64 0, .int .i64 0]] w fun e w' => e = .returned (.string (Bs (ln 8))) ∧ Below w.heap.size w w' := by
  have g0 : Below w.heap.size w (w.alloc (.cells #[.int .i64 8, .bool false, .int .i64 0, .int .i64 0, .int .i64 0] 75)) := by go_grown
  have b0 := Bl.new w [.int .i64 8, .bool false, .int .i64 0, .int .i64 0, .int .i64 0] 75
  have G := Lib.hid (And.intro g0 b0)
  clear g0 b0
  go_enter Tryz.func39, Tryz.ntmps39
  go_wp2_with fail
  refine (live_8 _).mono ?_
  rintro e1 w1 ⟨rfl, hb1⟩
  have G1 := Lib.hid (And.intro (Below.step G.out.1 hb1) (G.out.2.below hb1))
  clear hb1
  have y0 := G1.out.2.cell 0 _ rfl
  have y1 := G1.out.2.cell 1 _ rfl
  have y2 := G1.out.2.cell 2 _ rfl
  have y3 := G1.out.2.cell 3 _ rfl
  have y4 := G1.out.2.cell 4 _ rfl
  go_wp2_with fail
  go_ret
  exact ⟨rfl, G1.out.1⟩
theorem look_8 (w : World) : Calls Tryz.prog 24 #[.int .i64 8] w fun e w' => e = .returned (.string (Bs (ln 8))) ∧ Below w.heap.size w w' := by
  go_enter Tryz.func24, Tryz.ntmps24
  go_wp2_with fail
  refine (kind_8 _).mono ?_
  rintro e1 w1 ⟨rfl, hb1⟩
  go_wp2_with fail
  go_ret
  exact ⟨rfl, hb1⟩
theorem look_is (k : Int) (hk : k = 0 ∨ k = 1 ∨ k = 5 ∨ k = 6 ∨ k = 7 ∨ k = 8) (w : World) : Calls Tryz.prog 24 #[.int .i64 k] w fun e w' => e = .returned (.string (Bs (ln k))) ∧ Below w.heap.size w w' := by
  rcases hk with rfl | rfl | rfl | rfl | rfl | rfl
  · exact look_0 w
  · exact look_1 w
  · exact look_5 w
  · exact look_6 w
  · exact look_7 w
  · exact look_8 w
theorem number_ok (g n cp : Nat) (xs : List Int) (hx : xs.length = n) (hn : n ≤ 100) (hall : ∀ x ∈ xs, 0 ≤ x ∧ x ≤ 9999999) (w : World) (hc : ∀ (i : Nat) (x : Int), xs[i]? = some x → w.cell? ⟨g, i, none⟩ = some (.int .i64 x)) : Calls Tryz.prog 26 #[.slice (some ⟨g, 0, none⟩) n cp] w fun e w' => e = .returned (.bool true) ∧ w = w' := by
  have HC := Lib.hid hc
  have HA := Lib.hid hall
  have HX := Lib.hid hx
  have n1 : (n : Int) ≤ 100 := by omega
  clear hc hall hx
  go_enter Tryz.func26, Tryz.ntmps26
  go_wp2_with fail
  go_loopw [7] (fun j wr => ∃ i : Nat, i ≤ n ∧ j = .int .i64 (i : Int) ∧ w = wr) (fun j _ => n + 1 - (intOf j).toNat)
  case atStart => exact ⟨0, Nat.zero_le _, rfl, rfl⟩
  case round =>
    obtain ⟨i, hi, rfl, rfl⟩ := hrel
    have i0 : (0 : Int) ≤ (i : Int) := by omega
    by_cases hlt : i < n
    · have hl : i < xs.length := by rw [HX.out]; exact hlt
      have hc := HC.out i xs[i] (List.getElem?_eq_getElem hl)
      have ha := HA.out xs[i] (List.getElem_mem hl)
      obtain ⟨X, hX⟩ : ∃ X, X = xs[i] := ⟨_, rfl⟩
      rw [← hX] at hc ha
      have q1 : (i : Int) < (n : Int) := by omega
      have e1 : decide (X < 0) = false := decide_eq_false (by omega)
      have e2 : decide (9999999 < X) = false := decide_eq_false (by omega)
      have Hi := Lib.hid hlt
      clear hX ha hl hi
      go_wp2_with fail
      go_roundw
      case rel => exact ⟨i + 1, Hi.out, by go_num, by first | rfl | trivial⟩
      case measure => have := Hi.out; simp [intOf]; omega
    · obtain rfl : i = n := by omega
      have q5 : decide ((i : Int) < (i : Int)) = false := decide_eq_false (by omega)
      clear hi hlt
      go_wp2_with fail
      go_ret
      exact ⟨rfl, rfl⟩
theorem most_is (x : Int) (w : World) : Calls Tryz.prog 19 #[.int .i64 x] w fun e w' => e = .returned (.bool (mostB x)) ∧ w = w' := by
  by_cases h1 : 0 ≤ x
  · by_cases h2 : x ≤ 9999999
    · have e : mostB x = true := by unfold mostB; rw [decide_eq_true h1, decide_eq_true h2]; rfl
      rw [e]
      clear e
      go_enter Tryz.func19, Tryz.ntmps19
      go_wp2_with fail
      go_ret
      exact ⟨rfl, rfl⟩
    · have e : mostB x = false := by unfold mostB; rw [decide_eq_false h2]; simp
      have e2 : decide (x ≤ 9999999) = false := decide_eq_false h2
      rw [e]
      clear e h2
      go_enter Tryz.func19, Tryz.ntmps19
      go_wp2_with fail
      go_ret
      exact ⟨rfl, rfl⟩
  · have e : mostB x = false := by unfold mostB; rw [decide_eq_false h1]; simp
    have e2 : decide (0 ≤ x) = false := decide_eq_false h1
    rw [e]
    clear e h1
    go_enter Tryz.func19, Tryz.ntmps19
    go_wp2_with fail
    go_ret
    exact ⟨rfl, rfl⟩

end Go.Proofs.YtinciphhoieonaaGreatDoor

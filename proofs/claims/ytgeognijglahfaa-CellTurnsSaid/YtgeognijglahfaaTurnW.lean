/-
  The walk of CellTurns.
-/
import Derived.Test.YtgeognijglahfaaRows
import Derived.WalkKit
import Derived.ProofKit
import Derived.OpenShut
import Derived.ShutString
import Derived.Below
import Derived.Outline
import Derived.WalkLawsBesides
import Derived.WalkSpells
import Derived.Handy
import Derived.Deep.QuietTactic
import Derived.BigQuiet
import Derived.RegionTactic
import Derived.ChangeAlike
import Derived.Lib.Hide
import Derived.Deep.RegionHeld3
import Derived.Deep.LoopGhost
import Derived.Deep.CutRange
import Derived.Deep.DeepCutAuto
import Derived.Deep.CutBlock
import Derived.Test.YtgeognijglahfaaKit
import Derived.Test.YtgeognijglahfaaGive
import Derived.Test.YtgeognijglahfaaBox
import Derived.Test.YtgeognijglahfaaIs
import Derived.Test.YtgeognijglahfaaHold
import Derived.Test.YtgeognijglahfaaQuiet
import Derived.Test.YtgeognijglahfaaTwo
import Derived.Test.YtgeognijglahfaaTurnWI
import Derived.Test.YtgeognijglahfaaTurnWH
import Derived.Test.YtgeognijglahfaaTurnWL
namespace Go.Proofs.Ytgeognijglahfaa.cellTurns
open Go.ChangeShapes Go.WideShapes Go.ChangeAt Go.RowKit
theorem walk (a0_0 : Int) (a0_1 : Bool) (a0_2 : Int) (a0_3 : Int) (a0_4 : Int) (a1 : Int) (a2 : Int) (a3 : Int) (w : World) (w0_0 : (Lit.int .i64 a0_0).wf = true) (w0_2 : (Lit.int .i64 a0_2).wf = true) (w0_3 : (Lit.int .i64 a0_3).wf = true) (w0_4 : (Lit.int .i64 a0_4).wf = true) (w1 : (Lit.int .i64 a1).wf = true) (w2 : (Lit.int .i64 a2).wf = true) (w3 : (Lit.int .i64 a3).wf = true) :
    Calls Try.prog 6 #[.agg #[.int .i64 a0_0, .bool a0_1, .int .i64 a0_2, .int .i64 a0_3, .int .i64 a0_4], .int .i64 a1, .int .i64 a2, .int .i64 a3] w fun e w' => e = .returned (.bool true) ∧ Below w.heap.size w w' := by
  have b3 := (bounds_i64 w0_3).2
  have b4 := bounds_i64 w0_4
  have b2 := (bounds_i64 w2).2
  obtain ⟨K1, G1, L1, F1, c1, B1, x1, hT1, hU1, hN1⟩ := take_two a0_0 a0_2 a0_3 a0_4 a1 a2 a0_1 b3 b2 b4.1
  obtain ⟨K2, G2, L2, F2, c2, B2, x2, hT2, hU2, hN2⟩ := release_two a0_0 a0_2 a0_3 a0_4 a1 a2 a0_1 b3 b2 b4.1
  obtain ⟨K3, G3, L3, F3, c3, B3, x3, hT3, hU3, hN3⟩ := cancel_two a0_0 a0_2 a0_3 a0_4 a0_1
  by_cases g1 : a0_2 < 1099511627776
  · by_cases g2 : -1099511627776 < a0_2
    · obtain ⟨K4, G4, L4, F4, c4, B4, x4, hT4, hU4, hN4⟩ := begin_two a0_0 a0_2 a0_3 a0_4 a1 a3 a0_1 g1 g2
      by_cases n1 : a0_0 = 1
      · subst n1
        exact main_in_1 _ _ _ _ _ _ _ _ _ _ _ _ _ _ _ _ _ _ _ _ _ _ _ _ _ _ _ _ _ _ _ _ _ _ _ w g1 g2 hT1 hU1 hN1 hT2 hU2 hN2 hT3 hU3 hN3 hT4 hU4 hN4
      by_cases n2 : a0_0 = 2
      · subst n2
        exact main_in_2 _ _ _ _ _ _ _ _ _ _ _ _ _ _ _ _ _ _ _ _ _ _ _ _ _ _ _ _ _ _ _ _ _ _ _ w g1 g2 hT1 hU1 hN1 hT2 hU2 hN2 hT3 hU3 hN3 hT4 hU4 hN4
      exact main_in_o _ _ _ _ _ _ _ _ _ _ _ _ _ _ _ _ _ _ _ _ _ _ _ _ _ _ _ _ _ _ _ _ _ _ _ _ w n1 n2 g1 g2 hT1 hU1 hN1 hT2 hU2 hN2 hT3 hU3 hN3 hT4 hU4 hN4
    · skip
      by_cases n1 : a0_0 = 1
      · subst n1
        exact main_lo_1 _ _ _ _ _ _ _ _ _ _ _ _ _ _ _ _ _ _ _ _ _ _ _ _ _ _ _ _ w (by omega) hT1 hU1 hN1 hT2 hU2 hN2 hT3 hU3 hN3
      by_cases n2 : a0_0 = 2
      · subst n2
        exact main_lo_2 _ _ _ _ _ _ _ _ _ _ _ _ _ _ _ _ _ _ _ _ _ _ _ _ _ _ _ _ w (by omega) hT1 hU1 hN1 hT2 hU2 hN2 hT3 hU3 hN3
      exact main_lo_o _ _ _ _ _ _ _ _ _ _ _ _ _ _ _ _ _ _ _ _ _ _ _ _ _ _ _ _ _ w n1 n2 (by omega) hT1 hU1 hN1 hT2 hU2 hN2 hT3 hU3 hN3
  · skip
    by_cases n1 : a0_0 = 1
    · subst n1
      exact main_hi_1 _ _ _ _ _ _ _ _ _ _ _ _ _ _ _ _ _ _ _ _ _ _ _ _ _ _ _ _ w (by omega) hT1 hU1 hN1 hT2 hU2 hN2 hT3 hU3 hN3
    by_cases n2 : a0_0 = 2
    · subst n2
      exact main_hi_2 _ _ _ _ _ _ _ _ _ _ _ _ _ _ _ _ _ _ _ _ _ _ _ _ _ _ _ _ w (by omega) hT1 hU1 hN1 hT2 hU2 hN2 hT3 hU3 hN3
    exact main_hi_o _ _ _ _ _ _ _ _ _ _ _ _ _ _ _ _ _ _ _ _ _ _ _ _ _ _ _ _ _ w n1 n2 (by omega) hT1 hU1 hN1 hT2 hU2 hN2 hT3 hU3 hN3
end Go.Proofs.Ytgeognijglahfaa.cellTurns

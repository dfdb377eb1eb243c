/-
  What stands behind a verb, as the document has it.
-/
import Derived.Test.YtnppopeoloigeaaDoorRows
import Derived.Test.YtnppopeoloigeaaDoorKit
import Derived.Test.YtnppopeoloigeaaDoorApp
import Derived.Test.YtnppopeoloigeaaDoorQuiet
import Derived.WalkKit
import Derived.ProofKit
import Derived.OpenShut
import Derived.ShutString
import Derived.Below
import Derived.Outline
import Derived.WalkLawsBesides
import Derived.WalkSpells
import Derived.Handy
import Derived.Deep.QuietTactic
import Derived.BigQuiet
import Derived.RegionTactic
import Derived.ChangeAlike
import Derived.Lib.Hide
import Derived.Laws.Rows
import Derived.Laws.Tables
import Derived.Laws.CopyOwn
import Derived.Laws.MakeOwn
import Derived.Laws.Entries
import Derived.Laws.OwnMore
import Derived.Deep.WholeRow
import Derived.Deep.LoopGhost
import Derived.Deep.AppendLies
import Derived.Deep.Draws
import Derived.Maps.AppendAt
import Derived.OwnWalk
import Derived.Deep.RegionHeld3
import Derived.Deep.Cut
import Derived.Deep.CutRange
import Derived.Deep.DeepCutAuto
import Derived.Deep.CutBlock
import Derived.Lib.SliceRun
import Derived.IntWalk
import Derived.Laws.Strings
import Derived.Lib.Bytealg
import Derived.Lib.Strings
import Derived.Laws.Externs
import Derived.Test.YtnppopeoloigeaaDoorLnC
namespace Go.Proofs.YtnppopeoloigeaaDoor
open Go.ChangeShapes Go.WideShapes Go.ChangeAt Go.RowKit
/-- What stands behind a verb, letter by letter. -/
def wt (k : Int) : ByteArray := if k = 1 then ⟨#[110, 110, 115, 110, 110, 110, 110, 110]⟩ else if k = 2 then ⟨#[110, 110]⟩ else if k = 3 then ⟨#[110]⟩ else ⟨#[]⟩
theorem beq_flip (a b : List UInt8) : (a == b) = (b == a) := by
  rcases h : (b == a) with _ | _
  · rw [beq_eq_false_iff_ne] at h ⊢
    exact fun e => h e.symm
  · rw [beq_iff_eq] at h ⊢
    exact h.symm
theorem vl1 : (vb 1).toList = [115, 117, 98, 109, 105, 116] := by kernel_rfl
theorem vl2 : (vb 2).toList = [99, 97, 110, 99, 101, 108] := by kernel_rfl
theorem vl3 : (vb 3).toList = [112, 111, 108, 108] := by kernel_rfl
theorem vl4 : (vb 4).toList = [118, 105, 101, 119] := by kernel_rfl
set_option maxRecDepth 100000 in
set_option maxHeartbeats 1000000 in
theorem shape_is (s : ByteArray) (w : World) : Calls Tryd.prog 26 #[.string s] w fun e w' => e = .returned (.tuple #[.int .i64 (kd s), .string (wt (kd s))]) ∧ w = w' := by
  have f1 := beq_flip (vb 1).toList s.toList
  have f2 := beq_flip (vb 2).toList s.toList
  have f3 := beq_flip (vb 3).toList s.toList
  have f4 := beq_flip (vb 4).toList s.toList
  rcases h1 : ((vb 1).toList == s.toList) with _ | _
  · rcases h2 : ((vb 2).toList == s.toList) with _ | _
    · rcases h3 : ((vb 3).toList == s.toList) with _ | _
      · rcases h4 : ((vb 4).toList == s.toList) with _ | _
        · have HK := Lib.hid (show kd s = 0 from by unfold kd; rw [h1, h2, h3, h4]; rfl)
          have g1 : (s.toList == [115, 117, 98, 109, 105, 116]) = false := by rw [← vl1, ← f1]; exact h1
          have g2 : (s.toList == [99, 97, 110, 99, 101, 108]) = false := by rw [← vl2, ← f2]; exact h2
          have g3 : (s.toList == [112, 111, 108, 108]) = false := by rw [← vl3, ← f3]; exact h3
          have g4 : (s.toList == [118, 105, 101, 119]) = false := by rw [← vl4, ← f4]; exact h4
          clear h1 h2 h3 h4 f1 f2 f3 f4
          go_enter Tryd.func26, Tryd.ntmps26
          go_wp2_with fail
          go_ret2
          exact ⟨by rw [HK.out]; rfl, rfl⟩
        · have HK := Lib.hid (show kd s = 4 from by unfold kd; rw [h1, h2, h3, h4]; rfl)
          have g1 : (s.toList == [115, 117, 98, 109, 105, 116]) = false := by rw [← vl1, ← f1]; exact h1
          have g2 : (s.toList == [99, 97, 110, 99, 101, 108]) = false := by rw [← vl2, ← f2]; exact h2
          have g3 : (s.toList == [112, 111, 108, 108]) = false := by rw [← vl3, ← f3]; exact h3
          have g4 : (s.toList == [118, 105, 101, 119]) = true := by rw [← vl4, ← f4]; exact h4
          clear h1 h2 h3 h4 f1 f2 f3 f4
          go_enter Tryd.func26, Tryd.ntmps26
          go_wp2_with fail
          go_ret2
          exact ⟨by rw [HK.out]; rfl, rfl⟩
      · have HK := Lib.hid (show kd s = 3 from by unfold kd; rw [h1, h2, h3]; rfl)
        have g1 : (s.toList == [115, 117, 98, 109, 105, 116]) = false := by rw [← vl1, ← f1]; exact h1
        have g2 : (s.toList == [99, 97, 110, 99, 101, 108]) = false := by rw [← vl2, ← f2]; exact h2
        have g3 : (s.toList == [112, 111, 108, 108]) = true := by rw [← vl3, ← f3]; exact h3
        clear h1 h2 h3 f1 f2 f3 f4
        go_enter Tryd.func26, Tryd.ntmps26
        go_wp2_with fail
        go_ret2
        exact ⟨by rw [HK.out]; rfl, rfl⟩
    · have HK := Lib.hid (show kd s = 2 from by unfold kd; rw [h1, h2]; rfl)
      have g1 : (s.toList == [115, 117, 98, 109, 105, 116]) = false := by rw [← vl1, ← f1]; exact h1
      have g2 : (s.toList == [99, 97, 110, 99, 101, 108]) = true := by rw [← vl2, ← f2]; exact h2
      clear h1 h2 f1 f2 f3 f4
      go_enter Tryd.func26, Tryd.ntmps26
      go_wp2_with fail
      go_ret2
      exact ⟨by rw [HK.out]; rfl, rfl⟩
  · have HK := Lib.hid (show kd s = 1 from by unfold kd; rw [h1]; rfl)
    have g1 : (s.toList == [115, 117, 98, 109, 105, 116]) = true := by rw [← vl1, ← f1]; exact h1
    clear h1 f1 f2 f3 f4
    go_enter Tryd.func26, Tryd.ntmps26
    go_wp2_with fail
    go_ret2
    exact ⟨by rw [HK.out]; rfl, rfl⟩

end Go.Proofs.YtnppopeoloigeaaDoor

/-
  Two asks compared.
-/
import Derived.Test.YtnppopeoloigeaaDoorRows
import Derived.Test.YtnppopeoloigeaaDoorKit
import Derived.Test.YtnppopeoloigeaaDoorApp
import Derived.Test.YtnppopeoloigeaaDoorQuiet
import Derived.WalkKit
import Derived.ProofKit
import Derived.OpenShut
import Derived.ShutString
import Derived.Below
import Derived.Outline
import Derived.WalkLawsBesides
import Derived.WalkSpells
import Derived.Handy
import Derived.Deep.QuietTactic
import Derived.BigQuiet
import Derived.RegionTactic
import Derived.ChangeAlike
import Derived.Lib.Hide
import Derived.Laws.Rows
import Derived.Laws.Tables
import Derived.Laws.CopyOwn
import Derived.Laws.MakeOwn
import Derived.Laws.Entries
import Derived.Laws.OwnMore
import Derived.Deep.WholeRow
import Derived.Deep.LoopGhost
import Derived.Deep.AppendLies
import Derived.Deep.Draws
import Derived.Maps.AppendAt
import Derived.OwnWalk
import Derived.Deep.RegionHeld3
import Derived.Deep.Cut
import Derived.Deep.CutRange
import Derived.Deep.DeepCutAuto
import Derived.Deep.CutBlock
import Derived.Lib.SliceRun
import Derived.IntWalk
import Derived.Laws.Strings
import Derived.Test.YtnppopeoloigeaaDoorLnV
import Derived.Test.YtnppopeoloigeaaDoorLnR
namespace Go.Proofs.YtnppopeoloigeaaDoor
open Go.ChangeShapes Go.WideShapes Go.ChangeAt Go.RowKit
theorem eqTerms (a1 a2 a3 a4 a5 : Int) (d : Nat) (w : World) : (Op.equalIn (d + 2) 24 (.agg #[.int .i64 a1, .int .i64 a2, .int .i64 a3, .int .i64 a4, .int .i64 a5]) (.agg #[.int .i64 a1, .int .i64 a2, .int .i64 a3, .int .i64 a4, .int .i64 a5])).run Tryd.prog w = .ok true w := by
  have u3 := Tryd.underlying3
  have a3' := Tryd.isAgg3
  have z3 := Tryd.sizeOf3
  have hS : Tryd.prog.underlying 24 = some (.struct (Tryd.prog.fieldsOf 24)) := by kernel_rfl
  have hp : Tryd.prog.stoodInHeld 24 = false := by kernel_rfl
  rw [show d + 2 = (d + 1) + 1 from rfl, run_equalIn_agg w (d + 1) 24 _ _ hS hp]
  simp only [Program.fieldsOf, Tryd.underlying24]
  go_simp
theorem eqAsk (q1 q2 q3 a1 a2 a3 a4 a5 q5 : Int) (d : Nat) (w : World) : (Op.equalIn (d + 3) 26 (.agg #[.int .i64 q1, .int .i64 q2, .int .i64 q3, .int .i64 a1, .int .i64 a2, .int .i64 a3, .int .i64 a4, .int .i64 a5, .int .i64 q5]) (.agg #[.int .i64 q1, .int .i64 q2, .int .i64 q3, .int .i64 a1, .int .i64 a2, .int .i64 a3, .int .i64 a4, .int .i64 a5, .int .i64 q5])).run Tryd.prog w = .ok true w := by
  have u3 := Tryd.underlying3
  have a3' := Tryd.isAgg3
  have z3 := Tryd.sizeOf3
  have a63 := Tryd.isAgg24
  have z63 := Tryd.sizeOf24
  have hS : Tryd.prog.underlying 26 = some (.struct (Tryd.prog.fieldsOf 26)) := by kernel_rfl
  have hp : Tryd.prog.stoodInHeld 26 = false := by kernel_rfl
  have hT := eqTerms a1 a2 a3 a4 a5 d
  rw [show d + 3 = (d + 2) + 1 from rfl, run_equalIn_agg w (d + 2) 26 _ _ hS hp]
  simp only [Program.fieldsOf, Tryd.underlying26]
  go_simp
  try simp [hT]
theorem neTerms (a1 a2 a3 a4 a5 b1 b2 b3 b4 b5 : Int) (d : Nat) (w : World) (h : ¬ (a1 = b1 ∧ a2 = b2 ∧ a3 = b3 ∧ a4 = b4 ∧ a5 = b5)) : (Op.equalIn (d + 2) 24 (.agg #[.int .i64 a1, .int .i64 a2, .int .i64 a3, .int .i64 a4, .int .i64 a5]) (.agg #[.int .i64 b1, .int .i64 b2, .int .i64 b3, .int .i64 b4, .int .i64 b5])).run Tryd.prog w = .ok false w := by
  have u3 := Tryd.underlying3
  have a3' := Tryd.isAgg3
  have z3 := Tryd.sizeOf3
  have hS : Tryd.prog.underlying 24 = some (.struct (Tryd.prog.fieldsOf 24)) := by kernel_rfl
  have hp : Tryd.prog.stoodInHeld 24 = false := by kernel_rfl
  rw [show d + 2 = (d + 1) + 1 from rfl, run_equalIn_agg w (d + 1) 24 _ _ hS hp]
  simp only [Program.fieldsOf, Tryd.underlying24]
  by_cases ha1 : a1 = b1
  · subst ha1
    by_cases ha2 : a2 = b2
    · subst ha2
      by_cases ha3 : a3 = b3
      · subst ha3
        by_cases ha4 : a4 = b4
        · subst ha4
          by_cases ha5 : a5 = b5
          · subst ha5
            exact absurd ⟨rfl, rfl, rfl, rfl, rfl⟩ h
          · go_simp
        · go_simp
      · go_simp
    · go_simp
  · go_simp
theorem neAsk (q1 q2 q3 a1 a2 a3 a4 a5 q5 r1 r2 r3 b1 b2 b3 b4 b5 r5 : Int) (d : Nat) (w : World) (h : ¬ (q1 = r1 ∧ q2 = r2 ∧ q3 = r3 ∧ a1 = b1 ∧ a2 = b2 ∧ a3 = b3 ∧ a4 = b4 ∧ a5 = b5 ∧ q5 = r5)) : (Op.equalIn (d + 3) 26 (.agg #[.int .i64 q1, .int .i64 q2, .int .i64 q3, .int .i64 a1, .int .i64 a2, .int .i64 a3, .int .i64 a4, .int .i64 a5, .int .i64 q5]) (.agg #[.int .i64 r1, .int .i64 r2, .int .i64 r3, .int .i64 b1, .int .i64 b2, .int .i64 b3, .int .i64 b4, .int .i64 b5, .int .i64 r5])).run Tryd.prog w = .ok false w := by
  have u3 := Tryd.underlying3
  have a3' := Tryd.isAgg3
  have z3 := Tryd.sizeOf3
  have a63 := Tryd.isAgg24
  have z63 := Tryd.sizeOf24
  have hS : Tryd.prog.underlying 26 = some (.struct (Tryd.prog.fieldsOf 26)) := by kernel_rfl
  have hp : Tryd.prog.stoodInHeld 26 = false := by kernel_rfl
  rw [show d + 3 = (d + 2) + 1 from rfl, run_equalIn_agg w (d + 2) 26 _ _ hS hp]
  simp only [Program.fieldsOf, Tryd.underlying26]
  by_cases hq1 : q1 = r1
  · subst hq1
    by_cases hq2 : q2 = r2
    · subst hq2
      by_cases hq3 : q3 = r3
      · subst hq3
        by_cases hT : a1 = b1 ∧ a2 = b2 ∧ a3 = b3 ∧ a4 = b4 ∧ a5 = b5
        · obtain ⟨rfl, rfl, rfl, rfl, rfl⟩ := hT
          have hE := eqTerms a1 a2 a3 a4 a5 d
          by_cases h5 : q5 = r5
          · subst h5
            exact absurd ⟨rfl, rfl, rfl, rfl, rfl, rfl, rfl, rfl, rfl⟩ h
          · go_simp
            try simp [hE, h5]
        · have hE := fun W => neTerms a1 a2 a3 a4 a5 b1 b2 b3 b4 b5 d W hT
          go_simp
          try simp [hE]
      · go_simp
    · go_simp
  · go_simp
theorem eqlAsk (c0 c1 c2 c3 c4 c5 c6 c7 c8 : Int) (w : World) : (binOp .eql 26 (.agg (List.toArray [.int .i64 c0, .int .i64 c1, .int .i64 c2, .int .i64 c3, .int .i64 c4, .int .i64 c5, .int .i64 c6, .int .i64 c7, .int .i64 c8])) (.agg (List.toArray [.int .i64 c0, .int .i64 c1, .int .i64 c2, .int .i64 c3, .int .i64 c4, .int .i64 c5, .int .i64 c6, .int .i64 c7, .int .i64 c8]))).run Tryd.prog w = .ok (.bool true) w := by
  have h := eqAsk c0 c1 c2 c3 c4 c5 c6 c7 c8 9997 w
  simp only [binOp]
  simp [Op.equal, Op.maxDepth, h]
theorem nelAsk (c0 c1 c2 c3 c4 c5 c6 c7 c8 b0 b1 b2 b3 b4 b5 b6 b7 b8 : Int) (w : World) (hne : ¬ (c0 = b0 ∧ c1 = b1 ∧ c2 = b2 ∧ c3 = b3 ∧ c4 = b4 ∧ c5 = b5 ∧ c6 = b6 ∧ c7 = b7 ∧ c8 = b8)) : (binOp .eql 26 (.agg (List.toArray [.int .i64 c0, .int .i64 c1, .int .i64 c2, .int .i64 c3, .int .i64 c4, .int .i64 c5, .int .i64 c6, .int .i64 c7, .int .i64 c8])) (.agg (List.toArray [.int .i64 b0, .int .i64 b1, .int .i64 b2, .int .i64 b3, .int .i64 b4, .int .i64 b5, .int .i64 b6, .int .i64 b7, .int .i64 b8]))).run Tryd.prog w = .ok (.bool false) w := by
  have h := neAsk c0 c1 c2 c3 c4 c5 c6 c7 c8 b0 b1 b2 b3 b4 b5 b6 b7 b8 9997 w hne
  simp only [binOp]
  simp [Op.equal, Op.maxDepth, h]
end Go.Proofs.YtnppopeoloigeaaDoor

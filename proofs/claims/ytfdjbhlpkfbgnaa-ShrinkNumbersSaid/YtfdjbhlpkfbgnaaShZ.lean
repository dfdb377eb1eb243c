/-
  Two events compared.
-/
import Derived.Test.YtfdjbhlpkfbgnaaRows
import Derived.Test.YtfdjbhlpkfbgnaaKit
import Derived.Test.YtfdjbhlpkfbgnaaApp
import Derived.Test.YtfdjbhlpkfbgnaaQuiet
import Derived.Test.YtfdjbhlpkfbgnaaShM
import Derived.Test.YtfdjbhlpkfbgnaaShO
import Derived.Test.YtfdjbhlpkfbgnaaShB
import Derived.Test.YtfdjbhlpkfbgnaaShC
import Derived.Test.YtfdjbhlpkfbgnaaShD
import Derived.WalkKit
import Derived.ProofKit
import Derived.OpenShut
import Derived.ShutString
import Derived.Below
import Derived.Outline
import Derived.WalkLawsBesides
import Derived.WalkSpells
import Derived.Handy
import Derived.Deep.QuietTactic
import Derived.BigQuiet
import Derived.RegionTactic
import Derived.ChangeAlike
import Derived.Lib.Hide
import Derived.Laws.Rows
import Derived.Laws.Tables
import Derived.Laws.CopyOwn
import Derived.Laws.MakeOwn
import Derived.Laws.Entries
import Derived.Laws.OwnMore
import Derived.Deep.WholeRow
import Derived.Deep.LoopGhost
import Derived.Deep.AppendLies
import Derived.Deep.Draws
import Derived.Maps.AppendAt
import Derived.OwnWalk
import Derived.Deep.RegionHeld3
import Derived.Deep.Cut
import Derived.Deep.CutRange
import Derived.Deep.DeepCutAuto
import Derived.Deep.CutBlock
import Derived.Lib.SliceRun
import Derived.IntWalk
namespace Go.Proofs.Ytfdjbhlpkfbgnaa
open Go.ChangeShapes Go.WideShapes Go.ChangeAt Go.RowKit
theorem eqTerms (a1 a2 a3 a4 a5 : Int) (d : Nat) (w : World) : (Op.equalIn (d + 2) 34 (.agg #[.int .i64 a1, .int .i64 a2, .int .i64 a3, .int .i64 a4, .int .i64 a5]) (.agg #[.int .i64 a1, .int .i64 a2, .int .i64 a3, .int .i64 a4, .int .i64 a5])).run Try.prog w = .ok true w := by
  have u3 := Try.underlying3
  have a3' := Try.isAgg3
  have z3 := Try.sizeOf3
  have hS : Try.prog.underlying 34 = some (.struct (Try.prog.fieldsOf 34)) := by kernel_rfl
  have hp : Try.prog.stoodInHeld 34 = false := by kernel_rfl
  rw [show d + 2 = (d + 1) + 1 from rfl, run_equalIn_agg w (d + 1) 34 _ _ hS hp]
  simp only [Program.fieldsOf, Try.underlying34]
  go_simp
theorem eqAsk (q1 q2 q3 a1 a2 a3 a4 a5 q5 : Int) (d : Nat) (w : World) : (Op.equalIn (d + 3) 36 (.agg #[.int .i64 q1, .int .i64 q2, .int .i64 q3, .int .i64 a1, .int .i64 a2, .int .i64 a3, .int .i64 a4, .int .i64 a5, .int .i64 q5]) (.agg #[.int .i64 q1, .int .i64 q2, .int .i64 q3, .int .i64 a1, .int .i64 a2, .int .i64 a3, .int .i64 a4, .int .i64 a5, .int .i64 q5])).run Try.prog w = .ok true w := by
  have u3 := Try.underlying3
  have a3' := Try.isAgg3
  have z3 := Try.sizeOf3
  have a63 := Try.isAgg34
  have z63 := Try.sizeOf34
  have hS : Try.prog.underlying 36 = some (.struct (Try.prog.fieldsOf 36)) := by kernel_rfl
  have hp : Try.prog.stoodInHeld 36 = false := by kernel_rfl
  have hT := eqTerms a1 a2 a3 a4 a5 d
  rw [show d + 3 = (d + 2) + 1 from rfl, run_equalIn_agg w (d + 2) 36 _ _ hS hp]
  simp only [Program.fieldsOf, Try.underlying36]
  go_simp
  try simp [hT]
theorem eqEvn (x : Evn) (w : World) : (Op.equalIn 10000 38 (.agg (List.toArray [.int .i64 x.k, .int .i64 x.w, .int .i64 x.n, .int .i64 x.ak, .int .i64 x.ai, .int .i64 x.ac, .int .i64 x.an, .int .i64 x.sd, .int .i64 x.ap, .int .i64 x.al, .int .i64 x.au, .int .i64 x.aq])) (.agg (List.toArray [.int .i64 x.k, .int .i64 x.w, .int .i64 x.n, .int .i64 x.ak, .int .i64 x.ai, .int .i64 x.ac, .int .i64 x.an, .int .i64 x.sd, .int .i64 x.ap, .int .i64 x.al, .int .i64 x.au, .int .i64 x.aq]))).run Try.prog w = .ok true w := by
  have u3 := Try.underlying3
  have a3' := Try.isAgg3
  have z3 := Try.sizeOf3
  have a63 := Try.isAgg36
  have z63 := Try.sizeOf36
  have hS : Try.prog.underlying 38 = some (.struct (Try.prog.fieldsOf 38)) := by kernel_rfl
  have hp : Try.prog.stoodInHeld 38 = false := by kernel_rfl
  have hT := eqAsk x.ak x.ai x.ac x.an x.sd x.ap x.al x.au x.aq 9996
  rw [show (10000 : Nat) = 9999 + 1 from rfl, run_equalIn_agg w 9999 38 _ _ hS hp]
  simp only [Program.fieldsOf, Try.underlying38]
  go_simp
  try simp [hT]
theorem neTerms (a1 a2 a3 a4 a5 b1 b2 b3 b4 b5 : Int) (d : Nat) (w : World) (h : ¬ (a1 = b1 ∧ a2 = b2 ∧ a3 = b3 ∧ a4 = b4 ∧ a5 = b5)) : (Op.equalIn (d + 2) 34 (.agg #[.int .i64 a1, .int .i64 a2, .int .i64 a3, .int .i64 a4, .int .i64 a5]) (.agg #[.int .i64 b1, .int .i64 b2, .int .i64 b3, .int .i64 b4, .int .i64 b5])).run Try.prog w = .ok false w := by
  have u3 := Try.underlying3
  have a3' := Try.isAgg3
  have z3 := Try.sizeOf3
  have hS : Try.prog.underlying 34 = some (.struct (Try.prog.fieldsOf 34)) := by kernel_rfl
  have hp : Try.prog.stoodInHeld 34 = false := by kernel_rfl
  rw [show d + 2 = (d + 1) + 1 from rfl, run_equalIn_agg w (d + 1) 34 _ _ hS hp]
  simp only [Program.fieldsOf, Try.underlying34]
  by_cases ha1 : a1 = b1
  · subst ha1
    by_cases ha2 : a2 = b2
    · subst ha2
      by_cases ha3 : a3 = b3
      · subst ha3
        by_cases ha4 : a4 = b4
        · subst ha4
          by_cases ha5 : a5 = b5
          · subst ha5
            exact absurd ⟨rfl, rfl, rfl, rfl, rfl⟩ h
          · go_simp
        · go_simp
      · go_simp
    · go_simp
  · go_simp
theorem neAsk (q1 q2 q3 a1 a2 a3 a4 a5 q5 r1 r2 r3 b1 b2 b3 b4 b5 r5 : Int) (d : Nat) (w : World) (h : ¬ (q1 = r1 ∧ q2 = r2 ∧ q3 = r3 ∧ a1 = b1 ∧ a2 = b2 ∧ a3 = b3 ∧ a4 = b4 ∧ a5 = b5 ∧ q5 = r5)) : (Op.equalIn (d + 3) 36 (.agg #[.int .i64 q1, .int .i64 q2, .int .i64 q3, .int .i64 a1, .int .i64 a2, .int .i64 a3, .int .i64 a4, .int .i64 a5, .int .i64 q5]) (.agg #[.int .i64 r1, .int .i64 r2, .int .i64 r3, .int .i64 b1, .int .i64 b2, .int .i64 b3, .int .i64 b4, .int .i64 b5, .int .i64 r5])).run Try.prog w = .ok false w := by
  have u3 := Try.underlying3
  have a3' := Try.isAgg3
  have z3 := Try.sizeOf3
  have a63 := Try.isAgg34
  have z63 := Try.sizeOf34
  have hS : Try.prog.underlying 36 = some (.struct (Try.prog.fieldsOf 36)) := by kernel_rfl
  have hp : Try.prog.stoodInHeld 36 = false := by kernel_rfl
  rw [show d + 3 = (d + 2) + 1 from rfl, run_equalIn_agg w (d + 2) 36 _ _ hS hp]
  simp only [Program.fieldsOf, Try.underlying36]
  by_cases hq1 : q1 = r1
  · subst hq1
    by_cases hq2 : q2 = r2
    · subst hq2
      by_cases hq3 : q3 = r3
      · subst hq3
        by_cases hT : a1 = b1 ∧ a2 = b2 ∧ a3 = b3 ∧ a4 = b4 ∧ a5 = b5
        · obtain ⟨rfl, rfl, rfl, rfl, rfl⟩ := hT
          have hE := eqTerms a1 a2 a3 a4 a5 d
          by_cases h5 : q5 = r5
          · subst h5
            exact absurd ⟨rfl, rfl, rfl, rfl, rfl, rfl, rfl, rfl, rfl⟩ h
          · go_simp
            try simp [hE, h5]
        · have hE := fun W => neTerms a1 a2 a3 a4 a5 b1 b2 b3 b4 b5 d W hT
          go_simp
          try simp [hE]
      · go_simp
    · go_simp
  · go_simp
theorem neEvn (x y : Evn) (w : World) (h : x ≠ y) : (Op.equalIn 10000 38 (.agg (List.toArray [.int .i64 x.k, .int .i64 x.w, .int .i64 x.n, .int .i64 x.ak, .int .i64 x.ai, .int .i64 x.ac, .int .i64 x.an, .int .i64 x.sd, .int .i64 x.ap, .int .i64 x.al, .int .i64 x.au, .int .i64 x.aq])) (.agg (List.toArray [.int .i64 y.k, .int .i64 y.w, .int .i64 y.n, .int .i64 y.ak, .int .i64 y.ai, .int .i64 y.ac, .int .i64 y.an, .int .i64 y.sd, .int .i64 y.ap, .int .i64 y.al, .int .i64 y.au, .int .i64 y.aq]))).run Try.prog w = .ok false w := by
  obtain ⟨k1, k2, k3, q1, q2, q3, a1, a2, a3, a4, a5, q5⟩ := x
  obtain ⟨m1, m2, m3, r1, r2, r3, b1, b2, b3, b4, b5, r5⟩ := y
  dsimp only
  have u3 := Try.underlying3
  have a3' := Try.isAgg3
  have z3 := Try.sizeOf3
  have a63 := Try.isAgg36
  have z63 := Try.sizeOf36
  have hS : Try.prog.underlying 38 = some (.struct (Try.prog.fieldsOf 38)) := by kernel_rfl
  have hp : Try.prog.stoodInHeld 38 = false := by kernel_rfl
  rw [show (10000 : Nat) = (9999) + 1 from rfl, run_equalIn_agg w (9999) 38 _ _ hS hp]
  simp only [Program.fieldsOf, Try.underlying38]
  by_cases hk1 : k1 = m1
  · subst hk1
    by_cases hk2 : k2 = m2
    · subst hk2
      by_cases hk3 : k3 = m3
      · subst hk3
        have hE := fun W => neAsk q1 q2 q3 a1 a2 a3 a4 a5 q5 r1 r2 r3 b1 b2 b3 b4 b5 r5 9996 W (fun hh => by
          obtain ⟨rfl, rfl, rfl, rfl, rfl, rfl, rfl, rfl, rfl⟩ := hh
          exact absurd rfl h)
        go_simp
        try simp [hE]
      · go_simp
    · go_simp
  · go_simp
theorem eqlEvn (x y : Evn) : ∃ b : Bool, (b = true ↔ x = y) ∧ ∀ w, (binOp .eql 38 (.agg (List.toArray [.int .i64 x.k, .int .i64 x.w, .int .i64 x.n, .int .i64 x.ak, .int .i64 x.ai, .int .i64 x.ac, .int .i64 x.an, .int .i64 x.sd, .int .i64 x.ap, .int .i64 x.al, .int .i64 x.au, .int .i64 x.aq])) (.agg (List.toArray [.int .i64 y.k, .int .i64 y.w, .int .i64 y.n, .int .i64 y.ak, .int .i64 y.ai, .int .i64 y.ac, .int .i64 y.an, .int .i64 y.sd, .int .i64 y.ap, .int .i64 y.al, .int .i64 y.au, .int .i64 y.aq]))).run Try.prog w = .ok (.bool b) w := by
  by_cases h : x = y
  · subst h
    refine ⟨true, by simp, fun w => ?_⟩
    simp only [binOp]
    simp [Op.equal, Op.maxDepth, eqEvn x w]
  · refine ⟨false, by simp [h], fun w => ?_⟩
    simp only [binOp]
    simp [Op.equal, Op.maxDepth, neEvn x y w h]
end Go.Proofs.Ytfdjbhlpkfbgnaa

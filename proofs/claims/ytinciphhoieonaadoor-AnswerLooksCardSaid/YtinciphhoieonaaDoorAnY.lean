/-
  The document's Same.
-/
import Derived.Test.YtinciphhoieonaaDoorRows
import Derived.Test.YtinciphhoieonaaDoorKit
import Derived.Test.YtinciphhoieonaaDoorApp
import Derived.Test.YtinciphhoieonaaDoorQuiet
import Derived.WalkKit
import Derived.ProofKit
import Derived.OpenShut
import Derived.ShutString
import Derived.Below
import Derived.Outline
import Derived.WalkLawsBesides
import Derived.WalkSpells
import Derived.Handy
import Derived.Deep.QuietTactic
import Derived.BigQuiet
import Derived.RegionTactic
import Derived.ChangeAlike
import Derived.Lib.Hide
import Derived.Laws.Rows
import Derived.Laws.Tables
import Derived.Laws.CopyOwn
import Derived.Laws.MakeOwn
import Derived.Laws.Entries
import Derived.Laws.OwnMore
import Derived.Deep.WholeRow
import Derived.Deep.LoopGhost
import Derived.Deep.AppendLies
import Derived.Deep.Draws
import Derived.Maps.AppendAt
import Derived.OwnWalk
import Derived.Deep.RegionHeld3
import Derived.Deep.Cut
import Derived.Deep.CutRange
import Derived.Deep.DeepCutAuto
import Derived.Deep.CutBlock
import Derived.Lib.SliceRun
import Derived.IntWalk
import Derived.Laws.Strings
import Derived.Lib.Bytealg
import Derived.Lib.Strings
import Derived.Laws.Externs
import Derived.Test.YtinciphhoieonaaDoorAnB
import Derived.Deep.Slices
import Derived.Deep.Fields
import Derived.ChangeSame
import Derived.ChangeArms
import Derived.Deep.MidRow
import Derived.Deep.Upon
import Derived.BigRegion
namespace Go.Proofs.YtinciphhoieonaaDoor
open Go.ChangeShapes Go.WideShapes Go.ChangeAt Go.RowKit
/-- Two replies are the same but for what their looks say. -/
def E8 (a b : Rp) : Prop := a.k = b.k ∧ a.cd = b.cd ∧ a.t = b.t ∧ a.i = b.i ∧ a.c = b.c ∧ a.ask = b.ask ∧ (a.r0 = b.r0 ∧ a.r1 = b.r1 ∧ a.r2 = b.r2 ∧ a.r3 = b.r3 ∧ a.r4 = b.r4 ∧ a.r5 = b.r5) ∧ a.L.length = b.L.length
theorem E8.of {a b : Rp} (h : a = b) : E8 a b := by
  subst h
  exact ⟨rfl, rfl, rfl, rfl, rfl, rfl, ⟨rfl, rfl, rfl, rfl, rfl, rfl⟩, rfl⟩
theorem E8.eq {a b : Rp} (h : E8 a b) (hL : a.L = b.L) : a = b := by
  obtain ⟨h1, h2, h3, h4, h5, h6, ⟨g0, g1, g2, g3, g4, g5⟩, _⟩ := h
  exact rp_eq h1 h2 h3 h4 h5 h6 g0 g1 g2 g3 g4 g5 hL
theorem neqRc_0 (r0 r1 r2 r3 r4 r5 r0' r1' r2' r3' r4' r5' : Int) (h0 : r0 ≠ r0') (w : World) : (binOp .neq 23 (.agg (List.toArray [.int .i64 r0, .int .i64 r1, .int .i64 r2, .int .i64 r3, .int .i64 r4, .int .i64 r5])) (.agg (List.toArray [.int .i64 r0', .int .i64 r1', .int .i64 r2', .int .i64 r3', .int .i64 r4', .int .i64 r5']))).run Tryd.prog w = .ok (.bool true) w := by
  have u3 := Tryd.underlying3
  have a3' := Tryd.isAgg3
  have z3 := Tryd.sizeOf3
  have hS : Tryd.prog.underlying 23 = some (.struct (Tryd.prog.fieldsOf 23)) := by kernel_rfl
  have hp : Tryd.prog.stoodInHeld 23 = false := by kernel_rfl
  have hz : (r0 == r0') = false := beq_eq_false_iff_ne.2 h0
  have h : (Op.equalIn 10000 23 (.agg (List.toArray [.int .i64 r0, .int .i64 r1, .int .i64 r2, .int .i64 r3, .int .i64 r4, .int .i64 r5])) (.agg (List.toArray [.int .i64 r0', .int .i64 r1', .int .i64 r2', .int .i64 r3', .int .i64 r4', .int .i64 r5']))).run Tryd.prog w = .ok false w := by
    rw [show (10000 : Nat) = 9999 + 1 from rfl, run_equalIn_agg w 9999 23 _ _ hS hp]
    simp only [Program.fieldsOf, Tryd.underlying23]
    go_simp
    try simp [hz]
  simp only [binOp]
  simp [Op.equal, Op.maxDepth, h]
theorem neqRc_1 (r0 r1 r2 r3 r4 r5 r1' r2' r3' r4' r5' : Int) (h0 : r1 ≠ r1') (w : World) : (binOp .neq 23 (.agg (List.toArray [.int .i64 r0, .int .i64 r1, .int .i64 r2, .int .i64 r3, .int .i64 r4, .int .i64 r5])) (.agg (List.toArray [.int .i64 r0, .int .i64 r1', .int .i64 r2', .int .i64 r3', .int .i64 r4', .int .i64 r5']))).run Tryd.prog w = .ok (.bool true) w := by
  have u3 := Tryd.underlying3
  have a3' := Tryd.isAgg3
  have z3 := Tryd.sizeOf3
  have hS : Tryd.prog.underlying 23 = some (.struct (Tryd.prog.fieldsOf 23)) := by kernel_rfl
  have hp : Tryd.prog.stoodInHeld 23 = false := by kernel_rfl
  have hz : (r1 == r1') = false := beq_eq_false_iff_ne.2 h0
  have h : (Op.equalIn 10000 23 (.agg (List.toArray [.int .i64 r0, .int .i64 r1, .int .i64 r2, .int .i64 r3, .int .i64 r4, .int .i64 r5])) (.agg (List.toArray [.int .i64 r0, .int .i64 r1', .int .i64 r2', .int .i64 r3', .int .i64 r4', .int .i64 r5']))).run Tryd.prog w = .ok false w := by
    rw [show (10000 : Nat) = 9999 + 1 from rfl, run_equalIn_agg w 9999 23 _ _ hS hp]
    simp only [Program.fieldsOf, Tryd.underlying23]
    go_simp
    try simp [hz]
  simp only [binOp]
  simp [Op.equal, Op.maxDepth, h]
theorem neqRc_2 (r0 r1 r2 r3 r4 r5 r2' r3' r4' r5' : Int) (h0 : r2 ≠ r2') (w : World) : (binOp .neq 23 (.agg (List.toArray [.int .i64 r0, .int .i64 r1, .int .i64 r2, .int .i64 r3, .int .i64 r4, .int .i64 r5])) (.agg (List.toArray [.int .i64 r0, .int .i64 r1, .int .i64 r2', .int .i64 r3', .int .i64 r4', .int .i64 r5']))).run Tryd.prog w = .ok (.bool true) w := by
  have u3 := Tryd.underlying3
  have a3' := Tryd.isAgg3
  have z3 := Tryd.sizeOf3
  have hS : Tryd.prog.underlying 23 = some (.struct (Tryd.prog.fieldsOf 23)) := by kernel_rfl
  have hp : Tryd.prog.stoodInHeld 23 = false := by kernel_rfl
  have hz : (r2 == r2') = false := beq_eq_false_iff_ne.2 h0
  have h : (Op.equalIn 10000 23 (.agg (List.toArray [.int .i64 r0, .int .i64 r1, .int .i64 r2, .int .i64 r3, .int .i64 r4, .int .i64 r5])) (.agg (List.toArray [.int .i64 r0, .int .i64 r1, .int .i64 r2', .int .i64 r3', .int .i64 r4', .int .i64 r5']))).run Tryd.prog w = .ok false w := by
    rw [show (10000 : Nat) = 9999 + 1 from rfl, run_equalIn_agg w 9999 23 _ _ hS hp]
    simp only [Program.fieldsOf, Tryd.underlying23]
    go_simp
    try simp [hz]
  simp only [binOp]
  simp [Op.equal, Op.maxDepth, h]
theorem neqRc_3 (r0 r1 r2 r3 r4 r5 r3' r4' r5' : Int) (h0 : r3 ≠ r3') (w : World) : (binOp .neq 23 (.agg (List.toArray [.int .i64 r0, .int .i64 r1, .int .i64 r2, .int .i64 r3, .int .i64 r4, .int .i64 r5])) (.agg (List.toArray [.int .i64 r0, .int .i64 r1, .int .i64 r2, .int .i64 r3', .int .i64 r4', .int .i64 r5']))).run Tryd.prog w = .ok (.bool true) w := by
  have u3 := Tryd.underlying3
  have a3' := Tryd.isAgg3
  have z3 := Tryd.sizeOf3
  have hS : Tryd.prog.underlying 23 = some (.struct (Tryd.prog.fieldsOf 23)) := by kernel_rfl
  have hp : Tryd.prog.stoodInHeld 23 = false := by kernel_rfl
  have hz : (r3 == r3') = false := beq_eq_false_iff_ne.2 h0
  have h : (Op.equalIn 10000 23 (.agg (List.toArray [.int .i64 r0, .int .i64 r1, .int .i64 r2, .int .i64 r3, .int .i64 r4, .int .i64 r5])) (.agg (List.toArray [.int .i64 r0, .int .i64 r1, .int .i64 r2, .int .i64 r3', .int .i64 r4', .int .i64 r5']))).run Tryd.prog w = .ok false w := by
    rw [show (10000 : Nat) = 9999 + 1 from rfl, run_equalIn_agg w 9999 23 _ _ hS hp]
    simp only [Program.fieldsOf, Tryd.underlying23]
    go_simp
    try simp [hz]
  simp only [binOp]
  simp [Op.equal, Op.maxDepth, h]
theorem neqRc_4 (r0 r1 r2 r3 r4 r5 r4' r5' : Int) (h0 : r4 ≠ r4') (w : World) : (binOp .neq 23 (.agg (List.toArray [.int .i64 r0, .int .i64 r1, .int .i64 r2, .int .i64 r3, .int .i64 r4, .int .i64 r5])) (.agg (List.toArray [.int .i64 r0, .int .i64 r1, .int .i64 r2, .int .i64 r3, .int .i64 r4', .int .i64 r5']))).run Tryd.prog w = .ok (.bool true) w := by
  have u3 := Tryd.underlying3
  have a3' := Tryd.isAgg3
  have z3 := Tryd.sizeOf3
  have hS : Tryd.prog.underlying 23 = some (.struct (Tryd.prog.fieldsOf 23)) := by kernel_rfl
  have hp : Tryd.prog.stoodInHeld 23 = false := by kernel_rfl
  have hz : (r4 == r4') = false := beq_eq_false_iff_ne.2 h0
  have h : (Op.equalIn 10000 23 (.agg (List.toArray [.int .i64 r0, .int .i64 r1, .int .i64 r2, .int .i64 r3, .int .i64 r4, .int .i64 r5])) (.agg (List.toArray [.int .i64 r0, .int .i64 r1, .int .i64 r2, .int .i64 r3, .int .i64 r4', .int .i64 r5']))).run Tryd.prog w = .ok false w := by
    rw [show (10000 : Nat) = 9999 + 1 from rfl, run_equalIn_agg w 9999 23 _ _ hS hp]
    simp only [Program.fieldsOf, Tryd.underlying23]
    go_simp
    try simp [hz]
  simp only [binOp]
  simp [Op.equal, Op.maxDepth, h]
theorem neqRc_5 (r0 r1 r2 r3 r4 r5 r5' : Int) (h0 : r5 ≠ r5') (w : World) : (binOp .neq 23 (.agg (List.toArray [.int .i64 r0, .int .i64 r1, .int .i64 r2, .int .i64 r3, .int .i64 r4, .int .i64 r5])) (.agg (List.toArray [.int .i64 r0, .int .i64 r1, .int .i64 r2, .int .i64 r3, .int .i64 r4, .int .i64 r5']))).run Tryd.prog w = .ok (.bool true) w := by
  have u3 := Tryd.underlying3
  have a3' := Tryd.isAgg3
  have z3 := Tryd.sizeOf3
  have hS : Tryd.prog.underlying 23 = some (.struct (Tryd.prog.fieldsOf 23)) := by kernel_rfl
  have hp : Tryd.prog.stoodInHeld 23 = false := by kernel_rfl
  have hz : (r5 == r5') = false := beq_eq_false_iff_ne.2 h0
  have h : (Op.equalIn 10000 23 (.agg (List.toArray [.int .i64 r0, .int .i64 r1, .int .i64 r2, .int .i64 r3, .int .i64 r4, .int .i64 r5])) (.agg (List.toArray [.int .i64 r0, .int .i64 r1, .int .i64 r2, .int .i64 r3, .int .i64 r4, .int .i64 r5']))).run Tryd.prog w = .ok false w := by
    rw [show (10000 : Nat) = 9999 + 1 from rfl, run_equalIn_agg w 9999 23 _ _ hS hp]
    simp only [Program.fieldsOf, Tryd.underlying23]
    go_simp
    try simp [hz]
  simp only [binOp]
  simp [Op.equal, Op.maxDepth, h]
theorem neqRc_e (r0 r1 r2 r3 r4 r5 : Int) (w : World) : (binOp .neq 23 (.agg (List.toArray [.int .i64 r0, .int .i64 r1, .int .i64 r2, .int .i64 r3, .int .i64 r4, .int .i64 r5])) (.agg (List.toArray [.int .i64 r0, .int .i64 r1, .int .i64 r2, .int .i64 r3, .int .i64 r4, .int .i64 r5]))).run Tryd.prog w = .ok (.bool false) w := by
  have u3 := Tryd.underlying3
  have a3' := Tryd.isAgg3
  have z3 := Tryd.sizeOf3
  have hS : Tryd.prog.underlying 23 = some (.struct (Tryd.prog.fieldsOf 23)) := by kernel_rfl
  have hp : Tryd.prog.stoodInHeld 23 = false := by kernel_rfl
  have h : (Op.equalIn 10000 23 (.agg (List.toArray [.int .i64 r0, .int .i64 r1, .int .i64 r2, .int .i64 r3, .int .i64 r4, .int .i64 r5])) (.agg (List.toArray [.int .i64 r0, .int .i64 r1, .int .i64 r2, .int .i64 r3, .int .i64 r4, .int .i64 r5]))).run Tryd.prog w = .ok true w := by
    rw [show (10000 : Nat) = 9999 + 1 from rfl, run_equalIn_agg w 9999 23 _ _ hS hp]
    simp only [Program.fieldsOf, Tryd.underlying23]
    go_simp
    try simp
  simp only [binOp]
  simp [Op.equal, Op.maxDepth, h]
theorem neqRc_t (r0 r1 r2 r3 r4 r5 r0' r1' r2' r3' r4' r5' : Int) (h : ¬ (r0 = r0' ∧ r1 = r1' ∧ r2 = r2' ∧ r3 = r3' ∧ r4 = r4' ∧ r5 = r5')) (w : World) : (binOp .neq 23 (.agg (List.toArray [.int .i64 r0, .int .i64 r1, .int .i64 r2, .int .i64 r3, .int .i64 r4, .int .i64 r5])) (.agg (List.toArray [.int .i64 r0', .int .i64 r1', .int .i64 r2', .int .i64 r3', .int .i64 r4', .int .i64 r5']))).run Tryd.prog w = .ok (.bool true) w := by
  by_cases h0 : r0 = r0'
  rotate_left
  · exact neqRc_0 r0 r1 r2 r3 r4 r5 r0' r1' r2' r3' r4' r5' h0 w
  subst h0
  by_cases h1 : r1 = r1'
  rotate_left
  · exact neqRc_1 r0 r1 r2 r3 r4 r5 r1' r2' r3' r4' r5' h1 w
  subst h1
  by_cases h2 : r2 = r2'
  rotate_left
  · exact neqRc_2 r0 r1 r2 r3 r4 r5 r2' r3' r4' r5' h2 w
  subst h2
  by_cases h3 : r3 = r3'
  rotate_left
  · exact neqRc_3 r0 r1 r2 r3 r4 r5 r3' r4' r5' h3 w
  subst h3
  by_cases h4 : r4 = r4'
  rotate_left
  · exact neqRc_4 r0 r1 r2 r3 r4 r5 r4' r5' h4 w
  subst h4
  by_cases h5 : r5 = r5'
  rotate_left
  · exact neqRc_5 r0 r1 r2 r3 r4 r5 r5' h5 w
  subst h5
  exact absurd ⟨rfl, rfl, rfl, rfl, rfl, rfl⟩ h
theorem neqRc_f (r0 r1 r2 r3 r4 r5 r0' r1' r2' r3' r4' r5' : Int) (h : r0 = r0' ∧ r1 = r1' ∧ r2 = r2' ∧ r3 = r3' ∧ r4 = r4' ∧ r5 = r5') (w : World) : (binOp .neq 23 (.agg (List.toArray [.int .i64 r0, .int .i64 r1, .int .i64 r2, .int .i64 r3, .int .i64 r4, .int .i64 r5])) (.agg (List.toArray [.int .i64 r0', .int .i64 r1', .int .i64 r2', .int .i64 r3', .int .i64 r4', .int .i64 r5']))).run Tryd.prog w = .ok (.bool false) w := by
  obtain ⟨rfl, rfl, rfl, rfl, rfl, rfl⟩ := h
  exact neqRc_e r0 r1 r2 r3 r4 r5 w
theorem neqLk_0 (x0 x1 x2 x0' x1' x2' : Int) (h0 : x0 ≠ x0') (w : World) : (binOp .neq 34 (.agg (List.toArray [.int .i64 x0, .int .i64 x1, .int .i64 x2])) (.agg (List.toArray [.int .i64 x0', .int .i64 x1', .int .i64 x2']))).run Tryd.prog w = .ok (.bool true) w := by
  have u3 := Tryd.underlying3
  have a3' := Tryd.isAgg3
  have z3 := Tryd.sizeOf3
  have hS : Tryd.prog.underlying 34 = some (.struct (Tryd.prog.fieldsOf 34)) := by kernel_rfl
  have hp : Tryd.prog.stoodInHeld 34 = false := by kernel_rfl
  have hz : (x0 == x0') = false := beq_eq_false_iff_ne.2 h0
  have h : (Op.equalIn 10000 34 (.agg (List.toArray [.int .i64 x0, .int .i64 x1, .int .i64 x2])) (.agg (List.toArray [.int .i64 x0', .int .i64 x1', .int .i64 x2']))).run Tryd.prog w = .ok false w := by
    rw [show (10000 : Nat) = 9999 + 1 from rfl, run_equalIn_agg w 9999 34 _ _ hS hp]
    simp only [Program.fieldsOf, Tryd.underlying34]
    go_simp
    try simp [hz]
  simp only [binOp]
  simp [Op.equal, Op.maxDepth, h]
theorem neqLk_1 (x0 x1 x2 x1' x2' : Int) (h0 : x1 ≠ x1') (w : World) : (binOp .neq 34 (.agg (List.toArray [.int .i64 x0, .int .i64 x1, .int .i64 x2])) (.agg (List.toArray [.int .i64 x0, .int .i64 x1', .int .i64 x2']))).run Tryd.prog w = .ok (.bool true) w := by
  have u3 := Tryd.underlying3
  have a3' := Tryd.isAgg3
  have z3 := Tryd.sizeOf3
  have hS : Tryd.prog.underlying 34 = some (.struct (Tryd.prog.fieldsOf 34)) := by kernel_rfl
  have hp : Tryd.prog.stoodInHeld 34 = false := by kernel_rfl
  have hz : (x1 == x1') = false := beq_eq_false_iff_ne.2 h0
  have h : (Op.equalIn 10000 34 (.agg (List.toArray [.int .i64 x0, .int .i64 x1, .int .i64 x2])) (.agg (List.toArray [.int .i64 x0, .int .i64 x1', .int .i64 x2']))).run Tryd.prog w = .ok false w := by
    rw [show (10000 : Nat) = 9999 + 1 from rfl, run_equalIn_agg w 9999 34 _ _ hS hp]
    simp only [Program.fieldsOf, Tryd.underlying34]
    go_simp
    try simp [hz]
  simp only [binOp]
  simp [Op.equal, Op.maxDepth, h]
theorem neqLk_2 (x0 x1 x2 x2' : Int) (h0 : x2 ≠ x2') (w : World) : (binOp .neq 34 (.agg (List.toArray [.int .i64 x0, .int .i64 x1, .int .i64 x2])) (.agg (List.toArray [.int .i64 x0, .int .i64 x1, .int .i64 x2']))).run Tryd.prog w = .ok (.bool true) w := by
  have u3 := Tryd.underlying3
  have a3' := Tryd.isAgg3
  have z3 := Tryd.sizeOf3
  have hS : Tryd.prog.underlying 34 = some (.struct (Tryd.prog.fieldsOf 34)) := by kernel_rfl
  have hp : Tryd.prog.stoodInHeld 34 = false := by kernel_rfl
  have hz : (x2 == x2') = false := beq_eq_false_iff_ne.2 h0
  have h : (Op.equalIn 10000 34 (.agg (List.toArray [.int .i64 x0, .int .i64 x1, .int .i64 x2])) (.agg (List.toArray [.int .i64 x0, .int .i64 x1, .int .i64 x2']))).run Tryd.prog w = .ok false w := by
    rw [show (10000 : Nat) = 9999 + 1 from rfl, run_equalIn_agg w 9999 34 _ _ hS hp]
    simp only [Program.fieldsOf, Tryd.underlying34]
    go_simp
    try simp [hz]
  simp only [binOp]
  simp [Op.equal, Op.maxDepth, h]
theorem neqLk_e (x0 x1 x2 : Int) (w : World) : (binOp .neq 34 (.agg (List.toArray [.int .i64 x0, .int .i64 x1, .int .i64 x2])) (.agg (List.toArray [.int .i64 x0, .int .i64 x1, .int .i64 x2]))).run Tryd.prog w = .ok (.bool false) w := by
  have u3 := Tryd.underlying3
  have a3' := Tryd.isAgg3
  have z3 := Tryd.sizeOf3
  have hS : Tryd.prog.underlying 34 = some (.struct (Tryd.prog.fieldsOf 34)) := by kernel_rfl
  have hp : Tryd.prog.stoodInHeld 34 = false := by kernel_rfl
  have h : (Op.equalIn 10000 34 (.agg (List.toArray [.int .i64 x0, .int .i64 x1, .int .i64 x2])) (.agg (List.toArray [.int .i64 x0, .int .i64 x1, .int .i64 x2]))).run Tryd.prog w = .ok true w := by
    rw [show (10000 : Nat) = 9999 + 1 from rfl, run_equalIn_agg w 9999 34 _ _ hS hp]
    simp only [Program.fieldsOf, Tryd.underlying34]
    go_simp
    try simp
  simp only [binOp]
  simp [Op.equal, Op.maxDepth, h]
theorem neqLk_t (x0 x1 x2 x0' x1' x2' : Int) (h : ¬ (x0 = x0' ∧ x1 = x1' ∧ x2 = x2')) (w : World) : (binOp .neq 34 (.agg (List.toArray [.int .i64 x0, .int .i64 x1, .int .i64 x2])) (.agg (List.toArray [.int .i64 x0', .int .i64 x1', .int .i64 x2']))).run Tryd.prog w = .ok (.bool true) w := by
  by_cases h0 : x0 = x0'
  rotate_left
  · exact neqLk_0 x0 x1 x2 x0' x1' x2' h0 w
  subst h0
  by_cases h1 : x1 = x1'
  rotate_left
  · exact neqLk_1 x0 x1 x2 x1' x2' h1 w
  subst h1
  by_cases h2 : x2 = x2'
  rotate_left
  · exact neqLk_2 x0 x1 x2 x2' h2 w
  subst h2
  exact absurd ⟨rfl, rfl, rfl⟩ h
theorem neqLk_f (x0 x1 x2 x0' x1' x2' : Int) (h : x0 = x0' ∧ x1 = x1' ∧ x2 = x2') (w : World) : (binOp .neq 34 (.agg (List.toArray [.int .i64 x0, .int .i64 x1, .int .i64 x2])) (.agg (List.toArray [.int .i64 x0', .int .i64 x1', .int .i64 x2']))).run Tryd.prog w = .ok (.bool false) w := by
  obtain ⟨rfl, rfl, rfl⟩ := h
  exact neqLk_e x0 x1 x2 w
set_option maxRecDepth 100000 in
set_option maxHeartbeats 8000000 in
theorem same_is (k cd t i c : Int) (ask : Bool) (r0 r1 r2 r3 r4 r5 : Int) (L : List Lk) (A : Option Addr) (cap : Nat) (k' cd' t' i' c' : Int) (ask' : Bool) (r0' r1' r2' r3' r4' r5' : Int) (L' : List Lk) (A' : Option Addr) (cap' : Nat) (hl : L.length ≤ 1000) (w : World) (hL : LkAt A L w) (hL' : LkAt A' L' w) : Calls Tryd.prog 8 #[.agg (List.toArray [.int .i64 k, .int .i64 cd, .int .i64 t, .int .i64 i, .int .i64 c, .bool ask, .int .i64 r0, .int .i64 r1, .int .i64 r2, .int .i64 r3, .int .i64 r4, .int .i64 r5, .slice A L.length cap]), .agg (List.toArray [.int .i64 k', .int .i64 cd', .int .i64 t', .int .i64 i', .int .i64 c', .bool ask', .int .i64 r0', .int .i64 r1', .int .i64 r2', .int .i64 r3', .int .i64 r4', .int .i64 r5', .slice A' L'.length cap'])] w fun e w' => ∃ b, e = .returned (.bool b) ∧ (b = true ↔ (⟨k, cd, t, i, c, ask, r0, r1, r2, r3, r4, r5, L⟩ : Rp) = (⟨k', cd', t', i', c', ask', r0', r1', r2', r3', r4', r5', L'⟩ : Rp)) ∧ Below w.heap.size w w' := by
  have bR := (Bl.new w [.int .i64 k, .int .i64 cd, .int .i64 t, .int .i64 i, .int .i64 c, .bool ask, .int .i64 r0, .int .i64 r1, .int .i64 r2, .int .i64 r3, .int .i64 r4, .int .i64 r5, .slice A L.length cap] 26).below (w' := ((w.alloc (.cells (List.toArray [.int .i64 k, .int .i64 cd, .int .i64 t, .int .i64 i, .int .i64 c, .bool ask, .int .i64 r0, .int .i64 r1, .int .i64 r2, .int .i64 r3, .int .i64 r4, .int .i64 r5, .slice A L.length cap]) 26)).alloc (.cells (List.toArray [.int .i64 k', .int .i64 cd', .int .i64 t', .int .i64 i', .int .i64 c', .bool ask', .int .i64 r0', .int .i64 r1', .int .i64 r2', .int .i64 r3', .int .i64 r4', .int .i64 r5', .slice A' L'.length cap']) 26))) (by go_grown)
  have bQ := Bl.new (w.alloc (.cells (List.toArray [.int .i64 k, .int .i64 cd, .int .i64 t, .int .i64 i, .int .i64 c, .bool ask, .int .i64 r0, .int .i64 r1, .int .i64 r2, .int .i64 r3, .int .i64 r4, .int .i64 r5, .slice A L.length cap]) 26)) [.int .i64 k', .int .i64 cd', .int .i64 t', .int .i64 i', .int .i64 c', .bool ask', .int .i64 r0', .int .i64 r1', .int .i64 r2', .int .i64 r3', .int .i64 r4', .int .i64 r5', .slice A' L'.length cap'] 26
  have gB : Below w.heap.size w ((w.alloc (.cells (List.toArray [.int .i64 k, .int .i64 cd, .int .i64 t, .int .i64 i, .int .i64 c, .bool ask, .int .i64 r0, .int .i64 r1, .int .i64 r2, .int .i64 r3, .int .i64 r4, .int .i64 r5, .slice A L.length cap]) 26)).alloc (.cells (List.toArray [.int .i64 k', .int .i64 cd', .int .i64 t', .int .i64 i', .int .i64 c', .bool ask', .int .i64 r0', .int .i64 r1', .int .i64 r2', .int .i64 r3', .int .i64 r4', .int .i64 r5', .slice A' L'.length cap']) 26)) := by go_grown
  rw [World.size_alloc] at bQ
  obtain ⟨W, hW⟩ : ∃ W, W = ((w.alloc (.cells (List.toArray [.int .i64 k, .int .i64 cd, .int .i64 t, .int .i64 i, .int .i64 c, .bool ask, .int .i64 r0, .int .i64 r1, .int .i64 r2, .int .i64 r3, .int .i64 r4, .int .i64 r5, .slice A L.length cap]) 26)).alloc (.cells (List.toArray [.int .i64 k', .int .i64 cd', .int .i64 t', .int .i64 i', .int .i64 c', .bool ask', .int .i64 r0', .int .i64 r1', .int .i64 r2', .int .i64 r3', .int .i64 r4', .int .i64 r5', .slice A' L'.length cap']) 26)) := ⟨_, rfl⟩
  obtain ⟨RB, hRB⟩ : ∃ RB, RB = w.heap.size := ⟨_, rfl⟩
  obtain ⟨QB, hQB⟩ : ∃ QB, QB = w.heap.size + 1 := ⟨_, rfl⟩
  rw [← hW] at bR bQ gB
  rw [← hRB] at bR
  rw [← hQB] at bQ
  have HR := Lib.hid bR
  have HQ := Lib.hid bQ
  have HG := Lib.hid gB
  have HWE := Lib.hid hW
  have HRE := Lib.hid hRB
  have HQE := Lib.hid hQB
  have HLK := Lib.hid hL
  have HLK2 := Lib.hid hL'
  have HLL := Lib.hid hl
  have n1 : (L.length : Int) ≤ 1000 := by omega
  clear bR bQ gB hW hRB hQB hL hL' hl
  go_enter Tryd.func8, Tryd.ntmps8
  go_upto_region 1 with fail
  rw [← HWE.out, ← HQE.out, ← HRE.out]
  have y0 := HR.out.cell 0 _ rfl
  have y1 := HR.out.cell 1 _ rfl
  have y2 := HR.out.cell 2 _ rfl
  have y3 := HR.out.cell 3 _ rfl
  have y4 := HR.out.cell 4 _ rfl
  have y5 := HR.out.cell 5 _ rfl
  have y6 := HR.out.cell 6 _ rfl
  have y7 := HR.out.cell 7 _ rfl
  have y8 := HR.out.cell 8 _ rfl
  have y9 := HR.out.cell 9 _ rfl
  have y10 := HR.out.cell 10 _ rfl
  have y11 := HR.out.cell 11 _ rfl
  have y12 := HR.out.cell 12 _ rfl
  have z0 := HQ.out.cell 0 _ rfl
  have z1 := HQ.out.cell 1 _ rfl
  have z2 := HQ.out.cell 2 _ rfl
  have z3 := HQ.out.cell 3 _ rfl
  have z4 := HQ.out.cell 4 _ rfl
  have z5 := HQ.out.cell 5 _ rfl
  have z6 := HQ.out.cell 6 _ rfl
  have z7 := HQ.out.cell 7 _ rfl
  have z8 := HQ.out.cell 8 _ rfl
  have z9 := HQ.out.cell 9 _ rfl
  have z10 := HQ.out.cell 10 _ rfl
  have z11 := HQ.out.cell 11 _ rfl
  have z12 := HQ.out.cell 12 _ rfl
  go_cut [61] (fun s wx => ((s = .bool true ∧ ¬ E8 (⟨k, cd, t, i, c, ask, r0, r1, r2, r3, r4, r5, L⟩ : Rp) (⟨k', cd', t', i', c', ask', r0', r1', r2', r3', r4', r5', L'⟩ : Rp)) ∨ (s = .bool false ∧ E8 (⟨k, cd, t, i, c, ask, r0, r1, r2, r3, r4, r5, L⟩ : Rp) (⟨k', cd', t', i', c', ask', r0', r1', r2', r3', r4', r5', L'⟩ : Rp))) ∧ wx = W)
  case first =>
    as_aux_lemma =>
      by_cases h0 : k = k'
      · have G0 := Lib.hid h0
        clear h0
        have fa0 : (k == k') = true := beq_iff_eq.2 G0.out
        have fb0 : (k != k') = false := by simp [G0.out]
        by_cases h1 : cd = cd'
        · have G1 := Lib.hid h1
          clear h1
          have fa1 : (cd == cd') = true := beq_iff_eq.2 G1.out
          have fb1 : (cd != cd') = false := by simp [G1.out]
          by_cases h2 : t = t'
          · have G2 := Lib.hid h2
            clear h2
            have fa2 : (t == t') = true := beq_iff_eq.2 G2.out
            have fb2 : (t != t') = false := by simp [G2.out]
            by_cases h3 : i = i'
            · have G3 := Lib.hid h3
              clear h3
              have fa3 : (i == i') = true := beq_iff_eq.2 G3.out
              have fb3 : (i != i') = false := by simp [G3.out]
              by_cases h4 : c = c'
              · have G4 := Lib.hid h4
                clear h4
                have fa4 : (c == c') = true := beq_iff_eq.2 G4.out
                have fb4 : (c != c') = false := by simp [G4.out]
                cases ask with
                | true =>
                  cases ask' with
                  | true =>
                    have G5 : Hid ((true : Bool) = true) := Lib.hid rfl
                    by_cases h6 : r0 = r0' ∧ r1 = r1' ∧ r2 = r2' ∧ r3 = r3' ∧ r4 = r4' ∧ r5 = r5'
                    · have G6 := Lib.hid h6
                      clear h6
                      have nz := fun W => neqRc_f r0 r1 r2 r3 r4 r5 r0' r1' r2' r3' r4' r5' G6.out W
                      by_cases h7 : L.length = L'.length
                      · have G7 := Lib.hid h7
                        clear h7
                        have fa : ((L.length : Int) == (L'.length : Int)) = true := beq_iff_eq.2 (by have := G7.out; omega)
                        have fb : ((L.length : Int) != (L'.length : Int)) = false := by simp [G7.out]
                        have fc : (L.length == L'.length) = true := beq_iff_eq.2 G7.out
                        have fd : (L.length != L'.length) = false := by simp [G7.out]
                        go_wp2_with fail
                        go_meet
                        case rel => exact ⟨Or.inr ⟨rfl, G0.out, G1.out, G2.out, G3.out, G4.out, rfl, G6.out, G7.out⟩, rfl⟩
                      · have G7 := Lib.hid h7
                        clear h7
                        have fa : ((L.length : Int) == (L'.length : Int)) = false := beq_eq_false_iff_ne.2 (by have := G7.out; omega)
                        have fb : ((L.length : Int) != (L'.length : Int)) = true := bne_iff_ne.2 (by have := G7.out; omega)
                        have fc : (L.length == L'.length) = false := beq_eq_false_iff_ne.2 G7.out
                        have fd : (L.length != L'.length) = true := bne_iff_ne.2 G7.out
                        go_wp2_with fail
                        go_meet
                        case rel => exact ⟨Or.inl ⟨rfl, fun e => G7.out e.2.2.2.2.2.2.2⟩, rfl⟩
                    · have G6 := Lib.hid h6
                      clear h6
                      have nz := fun W => neqRc_t r0 r1 r2 r3 r4 r5 r0' r1' r2' r3' r4' r5' G6.out W
                      go_wp2_with fail
                      go_meet
                      case rel => exact ⟨Or.inl ⟨rfl, fun e => G6.out e.2.2.2.2.2.2.1⟩, rfl⟩
                  | false =>
                    go_wp2_with fail
                    go_meet
                    case rel => exact ⟨Or.inl ⟨rfl, fun e => by have : (true : Bool) = false := e.2.2.2.2.2.1; cases this⟩, rfl⟩
                | false =>
                  cases ask' with
                  | true =>
                    go_wp2_with fail
                    go_meet
                    case rel => exact ⟨Or.inl ⟨rfl, fun e => by have : (false : Bool) = true := e.2.2.2.2.2.1; cases this⟩, rfl⟩
                  | false =>
                    have G5 : Hid ((false : Bool) = false) := Lib.hid rfl
                    by_cases h6 : r0 = r0' ∧ r1 = r1' ∧ r2 = r2' ∧ r3 = r3' ∧ r4 = r4' ∧ r5 = r5'
                    · have G6 := Lib.hid h6
                      clear h6
                      have nz := fun W => neqRc_f r0 r1 r2 r3 r4 r5 r0' r1' r2' r3' r4' r5' G6.out W
                      by_cases h7 : L.length = L'.length
                      · have G7 := Lib.hid h7
                        clear h7
                        have fa : ((L.length : Int) == (L'.length : Int)) = true := beq_iff_eq.2 (by have := G7.out; omega)
                        have fb : ((L.length : Int) != (L'.length : Int)) = false := by simp [G7.out]
                        have fc : (L.length == L'.length) = true := beq_iff_eq.2 G7.out
                        have fd : (L.length != L'.length) = false := by simp [G7.out]
                        go_wp2_with fail
                        go_meet
                        case rel => exact ⟨Or.inr ⟨rfl, G0.out, G1.out, G2.out, G3.out, G4.out, rfl, G6.out, G7.out⟩, rfl⟩
                      · have G7 := Lib.hid h7
                        clear h7
                        have fa : ((L.length : Int) == (L'.length : Int)) = false := beq_eq_false_iff_ne.2 (by have := G7.out; omega)
                        have fb : ((L.length : Int) != (L'.length : Int)) = true := bne_iff_ne.2 (by have := G7.out; omega)
                        have fc : (L.length == L'.length) = false := beq_eq_false_iff_ne.2 G7.out
                        have fd : (L.length != L'.length) = true := bne_iff_ne.2 G7.out
                        go_wp2_with fail
                        go_meet
                        case rel => exact ⟨Or.inl ⟨rfl, fun e => G7.out e.2.2.2.2.2.2.2⟩, rfl⟩
                    · have G6 := Lib.hid h6
                      clear h6
                      have nz := fun W => neqRc_t r0 r1 r2 r3 r4 r5 r0' r1' r2' r3' r4' r5' G6.out W
                      go_wp2_with fail
                      go_meet
                      case rel => exact ⟨Or.inl ⟨rfl, fun e => G6.out e.2.2.2.2.2.2.1⟩, rfl⟩
              · have G4 := Lib.hid h4
                clear h4
                have fa4 : (c == c') = false := beq_eq_false_iff_ne.2 G4.out
                have fb4 : (c != c') = true := bne_iff_ne.2 G4.out
                go_wp2_with fail
                go_meet
                case rel => exact ⟨Or.inl ⟨rfl, fun e => G4.out e.2.2.2.2.1⟩, rfl⟩
            · have G3 := Lib.hid h3
              clear h3
              have fa3 : (i == i') = false := beq_eq_false_iff_ne.2 G3.out
              have fb3 : (i != i') = true := bne_iff_ne.2 G3.out
              go_wp2_with fail
              go_meet
              case rel => exact ⟨Or.inl ⟨rfl, fun e => G3.out e.2.2.2.1⟩, rfl⟩
          · have G2 := Lib.hid h2
            clear h2
            have fa2 : (t == t') = false := beq_eq_false_iff_ne.2 G2.out
            have fb2 : (t != t') = true := bne_iff_ne.2 G2.out
            go_wp2_with fail
            go_meet
            case rel => exact ⟨Or.inl ⟨rfl, fun e => G2.out e.2.2.1⟩, rfl⟩
        · have G1 := Lib.hid h1
          clear h1
          have fa1 : (cd == cd') = false := beq_eq_false_iff_ne.2 G1.out
          have fb1 : (cd != cd') = true := bne_iff_ne.2 G1.out
          go_wp2_with fail
          go_meet
          case rel => exact ⟨Or.inl ⟨rfl, fun e => G1.out e.2.1⟩, rfl⟩
      · have G0 := Lib.hid h0
        clear h0
        have fa0 : (k == k') = false := beq_eq_false_iff_ne.2 G0.out
        have fb0 : (k != k') = true := bne_iff_ne.2 G0.out
        go_wp2_with fail
        go_meet
        case rel => exact ⟨Or.inl ⟨rfl, fun e => G0.out e.1⟩, rfl⟩
  case rest =>
    obtain ⟨hs, hwc⟩ := hcut
    subst hwc
    clear y0 y1 y2 y3 y4 y5 y6 y7 y8 y9 y10 y11 y12 z0 z1 z2 z3 z4 z5 z6 z7 z8 z9 z10 z11 z12
    rcases hs with ⟨rfl, hP⟩ | ⟨rfl, hP⟩
    · have HP := Lib.hid hP
      clear hP
      go_wp2_with fail
      go_ret
      exact ⟨false, rfl, ⟨(fun h => by cases h), fun e => absurd (E8.of e) HP.out⟩, HG.out⟩
    · have HE := Lib.hid hP
      have HLE : Hid (L.length = L'.length) := Lib.hid hP.2.2.2.2.2.2.2
      clear hP
      go_wp2_with fail
      go_loopw [5] (fun j wr => ∃ n : Nat, n ≤ L.length ∧ j = .int .i64 (n : Int) ∧ Hid (L.take n = L'.take n ∧ Bl RB [.int .i64 k, .int .i64 cd, .int .i64 t, .int .i64 i, .int .i64 c, .bool ask, .int .i64 r0, .int .i64 r1, .int .i64 r2, .int .i64 r3, .int .i64 r4, .int .i64 r5, .slice A L.length cap] wr ∧ Bl QB [.int .i64 k', .int .i64 cd', .int .i64 t', .int .i64 i', .int .i64 c', .bool ask', .int .i64 r0', .int .i64 r1', .int .i64 r2', .int .i64 r3', .int .i64 r4', .int .i64 r5', .slice A' L'.length cap'] wr ∧ Below w.heap.size w wr)) (fun j _ => L.length + 1 - (intOf j).toNat)
      case atStart => exact ⟨0, Nat.zero_le _, rfl, Lib.hid ⟨rfl, HR.out, HQ.out, HG.out⟩⟩
      case round =>
        obtain ⟨n, hn, rfl, HM⟩ := hrel
        have i0 : (0 : Int) ≤ (n : Int) := by omega
        have y12 := HM.out.2.1.cell 12 _ rfl
        have z12 := HM.out.2.2.1.cell 12 _ rfl
        by_cases hlt : n < L.length
        · have hltu : n < L.length := hlt
          have hltv : n < L'.length := by have := HLE.out; omega
          obtain ⟨xu, hxu⟩ : ∃ x, L[n]? = some x := ⟨_, List.getElem?_eq_getElem hltu⟩
          obtain ⟨adu, hAu, hbu, hcu⟩ := (HLK.out.below HM.out.2.2.2) (by omega)
          obtain ⟨u0, u1', u2'⟩ := hcu n _ hxu
          subst hAu
          obtain ⟨uk, ul, uf⟩ := xu
          simp only at u0 u1' u2'
          have u1 : wr.cell? ⟨(adu.add (n * 3)).block, (adu.add (n * 3)).off + 1, none⟩ = some (.int .i64 ul) := by
            rw [← addp _ 1 (by decide) (World.cell?_spot u0), add_of_add]; exact u1'
          have u2 : wr.cell? ⟨(adu.add (n * 3)).block, (adu.add (n * 3)).off + 2, none⟩ = some (.int .i64 uf) := by
            rw [← addp _ 2 (by decide) (World.cell?_spot u0), add_of_add]; exact u2'
          obtain ⟨xv, hxv⟩ : ∃ x, L'[n]? = some x := ⟨_, List.getElem?_eq_getElem hltv⟩
          obtain ⟨adv, hAv, hbv, hcv⟩ := (HLK2.out.below HM.out.2.2.2) (by omega)
          obtain ⟨v0, v1', v2'⟩ := hcv n _ hxv
          subst hAv
          obtain ⟨vk, vl, vf⟩ := xv
          simp only at v0 v1' v2'
          have v1 : wr.cell? ⟨(adv.add (n * 3)).block, (adv.add (n * 3)).off + 1, none⟩ = some (.int .i64 vl) := by
            rw [← addp _ 1 (by decide) (World.cell?_spot v0), add_of_add]; exact v1'
          have v2 : wr.cell? ⟨(adv.add (n * 3)).block, (adv.add (n * 3)).off + 2, none⟩ = some (.int .i64 vf) := by
            rw [← addp _ 2 (by decide) (World.cell?_spot v0), add_of_add]; exact v2'
          have q1 : (n : Int) < (L.length : Int) := by omega
          have q2 : (n : Int) < (L'.length : Int) := by omega
          have Hi := Lib.hid hlt
          have HXu := Lib.hid hxu
          have HXv := Lib.hid hxv
          have gd : Below wr.heap.size wr wr.drew := (Below.refl _ _).drew
          have HMD := Lib.hid (And.intro (HM.out.2.1.below gd) (And.intro (HM.out.2.2.1.below gd) (Below.step HM.out.2.2.2 gd)))
          clear gd hxu hxv hbu hbv hcu hcv u1' u2' v1' v2' hlt hltu hltv hn
          by_cases hq : uk = vk ∧ ul = vl ∧ uf = vf
          · have HQ := Lib.hid hq
            have nz := fun W => neqLk_f uk ul uf vk vl vf HQ.out W
            clear hq
            go_wp2_with fail
            go_region
            go_wp2_with fail
            go_roundw
            case rel =>
              refine ⟨n + 1, Hi.out, by go_num, Lib.hid ⟨?_, HMD.out⟩⟩
              obtain ⟨rfl, rfl, rfl⟩ := HQ.out
              rw [List.take_add_one, List.take_add_one, HM.out.1, HXu.out, HXv.out]
            case measure => have := Hi.out; simp [intOf]; omega
          · have HQ := Lib.hid hq
            have nz := fun W => neqLk_t uk ul uf vk vl vf HQ.out W
            clear hq
            go_wp2_with fail
            go_region
            go_wp2_with fail
            go_ret
            refine ⟨false, rfl, ⟨(fun h => by cases h), fun e => ?_⟩, HMD.out.2.2⟩
            exfalso
            have eL : L = L' := congrArg Rp.L e
            have h1 := HXu.out
            rw [eL, HXv.out] at h1
            injection h1 with h1
            injection h1 with g1 g2 g3
            exact HQ.out ⟨g1.symm, g2.symm, g3.symm⟩
        · obtain rfl : n = L.length := by omega
          have q5 : decide ((L.length : Int) < (L.length : Int)) = false := decide_eq_false (by omega)
          clear hn hlt
          go_wp2_with fail
          go_ret
          refine ⟨true, rfl, ⟨fun _ => HE.out.eq ?_, fun _ => rfl⟩, HM.out.2.2.2⟩
          have h1 := HM.out.1
          rw [List.take_length, HLE.out, List.take_length] at h1
          exact h1

end Go.Proofs.YtinciphhoieonaaDoor

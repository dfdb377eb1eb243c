/-
  seat.Same.
-/
import Derived.Test.YtinciphhoieonaaGreatDoorRows
import Derived.Test.YtinciphhoieonaaGreatDoorKit
import Derived.Test.YtinciphhoieonaaGreatDoorApp
import Derived.Test.YtinciphhoieonaaGreatDoorQuiet
import Derived.WalkKit
import Derived.ProofKit
import Derived.OpenShut
import Derived.ShutString
import Derived.Below
import Derived.Outline
import Derived.WalkLawsBesides
import Derived.WalkSpells
import Derived.Handy
import Derived.Deep.QuietTactic
import Derived.BigQuiet
import Derived.RegionTactic
import Derived.ChangeAlike
import Derived.Lib.Hide
import Derived.Laws.Rows
import Derived.Laws.Tables
import Derived.Laws.CopyOwn
import Derived.Laws.MakeOwn
import Derived.Laws.Entries
import Derived.Laws.OwnMore
import Derived.Deep.WholeRow
import Derived.Deep.LoopGhost
import Derived.Deep.AppendLies
import Derived.Deep.Draws
import Derived.Maps.AppendAt
import Derived.OwnWalk
import Derived.Deep.RegionHeld3
import Derived.Deep.Cut
import Derived.Deep.CutRange
import Derived.Deep.DeepCutAuto
import Derived.Deep.CutBlock
import Derived.Lib.SliceRun
import Derived.IntWalk
import Derived.Laws.Strings
import Derived.Lib.Bytealg
import Derived.Lib.Strings
import Derived.Laws.Externs
import Derived.Test.YtinciphhoieonaaGreatDoorAnRa
import Derived.Deep.Slices
import Derived.Deep.Fields
import Derived.ChangeSame
import Derived.ChangeArms
import Derived.Deep.MidRow
import Derived.Deep.Upon
import Derived.BigRegion
namespace Go.Proofs.YtinciphhoieonaaGreatDoor
open Go.ChangeShapes Go.WideShapes Go.ChangeAt Go.RowKit
/-- Two replies are the same but for what their looks say. -/
def E8 (a b : Rp) : Prop := a.k = b.k ∧ a.cd = b.cd ∧ a.t = b.t ∧ a.i = b.i ∧ a.c = b.c ∧ a.ask = b.ask ∧ (a.r0 = b.r0 ∧ a.r1 = b.r1 ∧ a.r2 = b.r2 ∧ a.r3 = b.r3 ∧ a.r4 = b.r4 ∧ a.r5 = b.r5) ∧ a.L.length = b.L.length
theorem E8.of {a b : Rp} (h : a = b) : E8 a b := by
  subst h
  exact ⟨rfl, rfl, rfl, rfl, rfl, rfl, ⟨rfl, rfl, rfl, rfl, rfl, rfl⟩, rfl⟩
theorem E8.eq {a b : Rp} (h : E8 a b) (hL : a.L = b.L) : a = b := by
  obtain ⟨h1, h2, h3, h4, h5, h6, ⟨g0, g1, g2, g3, g4, g5⟩, _⟩ := h
  exact rp_eq h1 h2 h3 h4 h5 h6 g0 g1 g2 g3 g4 g5 hL
theorem eqRc_0 (r0 r1 r2 r3 r4 r5 r0' r1' r2' r3' r4' r5' : Int) (h0 : r0 ≠ r0') (w : World) : (binOp .eql 24 (.agg (List.toArray [.int .i64 r0, .int .i64 r1, .int .i64 r2, .int .i64 r3, .int .i64 r4, .int .i64 r5])) (.agg (List.toArray [.int .i64 r0', .int .i64 r1', .int .i64 r2', .int .i64 r3', .int .i64 r4', .int .i64 r5']))).run Tryz.prog w = .ok (.bool false) w := by
  have u3 := Tryz.underlying3
  have a3' := Tryz.isAgg3
  have z3 := Tryz.sizeOf3
  have hS : Tryz.prog.underlying 24 = some (.struct (Tryz.prog.fieldsOf 24)) := by kernel_rfl
  have hp : Tryz.prog.stoodInHeld 24 = false := by kernel_rfl
  have hz : (r0 == r0') = false := beq_eq_false_iff_ne.2 h0
  have h : (Op.equalIn 10000 24 (.agg (List.toArray [.int .i64 r0, .int .i64 r1, .int .i64 r2, .int .i64 r3, .int .i64 r4, .int .i64 r5])) (.agg (List.toArray [.int .i64 r0', .int .i64 r1', .int .i64 r2', .int .i64 r3', .int .i64 r4', .int .i64 r5']))).run Tryz.prog w = .ok false w := by
    rw [show (10000 : Nat) = 9999 + 1 from rfl, run_equalIn_agg w 9999 24 _ _ hS hp]
    simp only [Program.fieldsOf, Tryz.underlying24]
    go_simp
    try simp [hz]
  simp only [binOp]
  simp [Op.equal, Op.maxDepth, h]
theorem eqRc_1 (r0 r1 r2 r3 r4 r5 r1' r2' r3' r4' r5' : Int) (h0 : r1 ≠ r1') (w : World) : (binOp .eql 24 (.agg (List.toArray [.int .i64 r0, .int .i64 r1, .int .i64 r2, .int .i64 r3, .int .i64 r4, .int .i64 r5])) (.agg (List.toArray [.int .i64 r0, .int .i64 r1', .int .i64 r2', .int .i64 r3', .int .i64 r4', .int .i64 r5']))).run Tryz.prog w = .ok (.bool false) w := by
  have u3 := Tryz.underlying3
  have a3' := Tryz.isAgg3
  have z3 := Tryz.sizeOf3
  have hS : Tryz.prog.underlying 24 = some (.struct (Tryz.prog.fieldsOf 24)) := by kernel_rfl
  have hp : Tryz.prog.stoodInHeld 24 = false := by kernel_rfl
  have hz : (r1 == r1') = false := beq_eq_false_iff_ne.2 h0
  have h : (Op.equalIn 10000 24 (.agg (List.toArray [.int .i64 r0, .int .i64 r1, .int .i64 r2, .int .i64 r3, .int .i64 r4, .int .i64 r5])) (.agg (List.toArray [.int .i64 r0, .int .i64 r1', .int .i64 r2', .int .i64 r3', .int .i64 r4', .int .i64 r5']))).run Tryz.prog w = .ok false w := by
    rw [show (10000 : Nat) = 9999 + 1 from rfl, run_equalIn_agg w 9999 24 _ _ hS hp]
    simp only [Program.fieldsOf, Tryz.underlying24]
    go_simp
    try simp [hz]
  simp only [binOp]
  simp [Op.equal, Op.maxDepth, h]
theorem eqRc_2 (r0 r1 r2 r3 r4 r5 r2' r3' r4' r5' : Int) (h0 : r2 ≠ r2') (w : World) : (binOp .eql 24 (.agg (List.toArray [.int .i64 r0, .int .i64 r1, .int .i64 r2, .int .i64 r3, .int .i64 r4, .int .i64 r5])) (.agg (List.toArray [.int .i64 r0, .int .i64 r1, .int .i64 r2', .int .i64 r3', .int .i64 r4', .int .i64 r5']))).run Tryz.prog w = .ok (.bool false) w := by
  have u3 := Tryz.underlying3
  have a3' := Tryz.isAgg3
  have z3 := Tryz.sizeOf3
  have hS : Tryz.prog.underlying 24 = some (.struct (Tryz.prog.fieldsOf 24)) := by kernel_rfl
  have hp : Tryz.prog.stoodInHeld 24 = false := by kernel_rfl
  have hz : (r2 == r2') = false := beq_eq_false_iff_ne.2 h0
  have h : (Op.equalIn 10000 24 (.agg (List.toArray [.int .i64 r0, .int .i64 r1, .int .i64 r2, .int .i64 r3, .int .i64 r4, .int .i64 r5])) (.agg (List.toArray [.int .i64 r0, .int .i64 r1, .int .i64 r2', .int .i64 r3', .int .i64 r4', .int .i64 r5']))).run Tryz.prog w = .ok false w := by
    rw [show (10000 : Nat) = 9999 + 1 from rfl, run_equalIn_agg w 9999 24 _ _ hS hp]
    simp only [Program.fieldsOf, Tryz.underlying24]
    go_simp
    try simp [hz]
  simp only [binOp]
  simp [Op.equal, Op.maxDepth, h]
theorem eqRc_3 (r0 r1 r2 r3 r4 r5 r3' r4' r5' : Int) (h0 : r3 ≠ r3') (w : World) : (binOp .eql 24 (.agg (List.toArray [.int .i64 r0, .int .i64 r1, .int .i64 r2, .int .i64 r3, .int .i64 r4, .int .i64 r5])) (.agg (List.toArray [.int .i64 r0, .int .i64 r1, .int .i64 r2, .int .i64 r3', .int .i64 r4', .int .i64 r5']))).run Tryz.prog w = .ok (.bool false) w := by
  have u3 := Tryz.underlying3
  have a3' := Tryz.isAgg3
  have z3 := Tryz.sizeOf3
  have hS : Tryz.prog.underlying 24 = some (.struct (Tryz.prog.fieldsOf 24)) := by kernel_rfl
  have hp : Tryz.prog.stoodInHeld 24 = false := by kernel_rfl
  have hz : (r3 == r3') = false := beq_eq_false_iff_ne.2 h0
  have h : (Op.equalIn 10000 24 (.agg (List.toArray [.int .i64 r0, .int .i64 r1, .int .i64 r2, .int .i64 r3, .int .i64 r4, .int .i64 r5])) (.agg (List.toArray [.int .i64 r0, .int .i64 r1, .int .i64 r2, .int .i64 r3', .int .i64 r4', .int .i64 r5']))).run Tryz.prog w = .ok false w := by
    rw [show (10000 : Nat) = 9999 + 1 from rfl, run_equalIn_agg w 9999 24 _ _ hS hp]
    simp only [Program.fieldsOf, Tryz.underlying24]
    go_simp
    try simp [hz]
  simp only [binOp]
  simp [Op.equal, Op.maxDepth, h]
theorem eqRc_4 (r0 r1 r2 r3 r4 r5 r4' r5' : Int) (h0 : r4 ≠ r4') (w : World) : (binOp .eql 24 (.agg (List.toArray [.int .i64 r0, .int .i64 r1, .int .i64 r2, .int .i64 r3, .int .i64 r4, .int .i64 r5])) (.agg (List.toArray [.int .i64 r0, .int .i64 r1, .int .i64 r2, .int .i64 r3, .int .i64 r4', .int .i64 r5']))).run Tryz.prog w = .ok (.bool false) w := by
  have u3 := Tryz.underlying3
  have a3' := Tryz.isAgg3
  have z3 := Tryz.sizeOf3
  have hS : Tryz.prog.underlying 24 = some (.struct (Tryz.prog.fieldsOf 24)) := by kernel_rfl
  have hp : Tryz.prog.stoodInHeld 24 = false := by kernel_rfl
  have hz : (r4 == r4') = false := beq_eq_false_iff_ne.2 h0
  have h : (Op.equalIn 10000 24 (.agg (List.toArray [.int .i64 r0, .int .i64 r1, .int .i64 r2, .int .i64 r3, .int .i64 r4, .int .i64 r5])) (.agg (List.toArray [.int .i64 r0, .int .i64 r1, .int .i64 r2, .int .i64 r3, .int .i64 r4', .int .i64 r5']))).run Tryz.prog w = .ok false w := by
    rw [show (10000 : Nat) = 9999 + 1 from rfl, run_equalIn_agg w 9999 24 _ _ hS hp]
    simp only [Program.fieldsOf, Tryz.underlying24]
    go_simp
    try simp [hz]
  simp only [binOp]
  simp [Op.equal, Op.maxDepth, h]
theorem eqRc_5 (r0 r1 r2 r3 r4 r5 r5' : Int) (h0 : r5 ≠ r5') (w : World) : (binOp .eql 24 (.agg (List.toArray [.int .i64 r0, .int .i64 r1, .int .i64 r2, .int .i64 r3, .int .i64 r4, .int .i64 r5])) (.agg (List.toArray [.int .i64 r0, .int .i64 r1, .int .i64 r2, .int .i64 r3, .int .i64 r4, .int .i64 r5']))).run Tryz.prog w = .ok (.bool false) w := by
  have u3 := Tryz.underlying3
  have a3' := Tryz.isAgg3
  have z3 := Tryz.sizeOf3
  have hS : Tryz.prog.underlying 24 = some (.struct (Tryz.prog.fieldsOf 24)) := by kernel_rfl
  have hp : Tryz.prog.stoodInHeld 24 = false := by kernel_rfl
  have hz : (r5 == r5') = false := beq_eq_false_iff_ne.2 h0
  have h : (Op.equalIn 10000 24 (.agg (List.toArray [.int .i64 r0, .int .i64 r1, .int .i64 r2, .int .i64 r3, .int .i64 r4, .int .i64 r5])) (.agg (List.toArray [.int .i64 r0, .int .i64 r1, .int .i64 r2, .int .i64 r3, .int .i64 r4, .int .i64 r5']))).run Tryz.prog w = .ok false w := by
    rw [show (10000 : Nat) = 9999 + 1 from rfl, run_equalIn_agg w 9999 24 _ _ hS hp]
    simp only [Program.fieldsOf, Tryz.underlying24]
    go_simp
    try simp [hz]
  simp only [binOp]
  simp [Op.equal, Op.maxDepth, h]
theorem eqRc_e (r0 r1 r2 r3 r4 r5 : Int) (w : World) : (binOp .eql 24 (.agg (List.toArray [.int .i64 r0, .int .i64 r1, .int .i64 r2, .int .i64 r3, .int .i64 r4, .int .i64 r5])) (.agg (List.toArray [.int .i64 r0, .int .i64 r1, .int .i64 r2, .int .i64 r3, .int .i64 r4, .int .i64 r5]))).run Tryz.prog w = .ok (.bool true) w := by
  have u3 := Tryz.underlying3
  have a3' := Tryz.isAgg3
  have z3 := Tryz.sizeOf3
  have hS : Tryz.prog.underlying 24 = some (.struct (Tryz.prog.fieldsOf 24)) := by kernel_rfl
  have hp : Tryz.prog.stoodInHeld 24 = false := by kernel_rfl
  have h : (Op.equalIn 10000 24 (.agg (List.toArray [.int .i64 r0, .int .i64 r1, .int .i64 r2, .int .i64 r3, .int .i64 r4, .int .i64 r5])) (.agg (List.toArray [.int .i64 r0, .int .i64 r1, .int .i64 r2, .int .i64 r3, .int .i64 r4, .int .i64 r5]))).run Tryz.prog w = .ok true w := by
    rw [show (10000 : Nat) = 9999 + 1 from rfl, run_equalIn_agg w 9999 24 _ _ hS hp]
    simp only [Program.fieldsOf, Tryz.underlying24]
    go_simp
    try simp
  simp only [binOp]
  simp [Op.equal, Op.maxDepth, h]
theorem eqRc_t (r0 r1 r2 r3 r4 r5 r0' r1' r2' r3' r4' r5' : Int) (h : ¬ (r0 = r0' ∧ r1 = r1' ∧ r2 = r2' ∧ r3 = r3' ∧ r4 = r4' ∧ r5 = r5')) (w : World) : (binOp .eql 24 (.agg (List.toArray [.int .i64 r0, .int .i64 r1, .int .i64 r2, .int .i64 r3, .int .i64 r4, .int .i64 r5])) (.agg (List.toArray [.int .i64 r0', .int .i64 r1', .int .i64 r2', .int .i64 r3', .int .i64 r4', .int .i64 r5']))).run Tryz.prog w = .ok (.bool false) w := by
  by_cases h0 : r0 = r0'
  rotate_left
  · exact eqRc_0 r0 r1 r2 r3 r4 r5 r0' r1' r2' r3' r4' r5' h0 w
  subst h0
  by_cases h1 : r1 = r1'
  rotate_left
  · exact eqRc_1 r0 r1 r2 r3 r4 r5 r1' r2' r3' r4' r5' h1 w
  subst h1
  by_cases h2 : r2 = r2'
  rotate_left
  · exact eqRc_2 r0 r1 r2 r3 r4 r5 r2' r3' r4' r5' h2 w
  subst h2
  by_cases h3 : r3 = r3'
  rotate_left
  · exact eqRc_3 r0 r1 r2 r3 r4 r5 r3' r4' r5' h3 w
  subst h3
  by_cases h4 : r4 = r4'
  rotate_left
  · exact eqRc_4 r0 r1 r2 r3 r4 r5 r4' r5' h4 w
  subst h4
  by_cases h5 : r5 = r5'
  rotate_left
  · exact eqRc_5 r0 r1 r2 r3 r4 r5 r5' h5 w
  subst h5
  exact absurd ⟨rfl, rfl, rfl, rfl, rfl, rfl⟩ h
theorem eqRc_f (r0 r1 r2 r3 r4 r5 r0' r1' r2' r3' r4' r5' : Int) (h : r0 = r0' ∧ r1 = r1' ∧ r2 = r2' ∧ r3 = r3' ∧ r4 = r4' ∧ r5 = r5') (w : World) : (binOp .eql 24 (.agg (List.toArray [.int .i64 r0, .int .i64 r1, .int .i64 r2, .int .i64 r3, .int .i64 r4, .int .i64 r5])) (.agg (List.toArray [.int .i64 r0', .int .i64 r1', .int .i64 r2', .int .i64 r3', .int .i64 r4', .int .i64 r5']))).run Tryz.prog w = .ok (.bool true) w := by
  obtain ⟨rfl, rfl, rfl, rfl, rfl, rfl⟩ := h
  exact eqRc_e r0 r1 r2 r3 r4 r5 w
theorem neqSk_0 (x0 x1 x2 x0' x1' x2' : Int) (h0 : x0 ≠ x0') (w : World) : (binOp .neq 54 (.agg (List.toArray [.int .i64 x0, .int .i64 x1, .int .i64 x2])) (.agg (List.toArray [.int .i64 x0', .int .i64 x1', .int .i64 x2']))).run Tryz.prog w = .ok (.bool true) w := by
  have u3 := Tryz.underlying3
  have a3' := Tryz.isAgg3
  have z3 := Tryz.sizeOf3
  have hS : Tryz.prog.underlying 54 = some (.struct (Tryz.prog.fieldsOf 54)) := by kernel_rfl
  have hp : Tryz.prog.stoodInHeld 54 = false := by kernel_rfl
  have hz : (x0 == x0') = false := beq_eq_false_iff_ne.2 h0
  have h : (Op.equalIn 10000 54 (.agg (List.toArray [.int .i64 x0, .int .i64 x1, .int .i64 x2])) (.agg (List.toArray [.int .i64 x0', .int .i64 x1', .int .i64 x2']))).run Tryz.prog w = .ok false w := by
    rw [show (10000 : Nat) = 9999 + 1 from rfl, run_equalIn_agg w 9999 54 _ _ hS hp]
    simp only [Program.fieldsOf, Tryz.underlying54]
    go_simp
    try simp [hz]
  simp only [binOp]
  simp [Op.equal, Op.maxDepth, h]
theorem neqSk_1 (x0 x1 x2 x1' x2' : Int) (h0 : x1 ≠ x1') (w : World) : (binOp .neq 54 (.agg (List.toArray [.int .i64 x0, .int .i64 x1, .int .i64 x2])) (.agg (List.toArray [.int .i64 x0, .int .i64 x1', .int .i64 x2']))).run Tryz.prog w = .ok (.bool true) w := by
  have u3 := Tryz.underlying3
  have a3' := Tryz.isAgg3
  have z3 := Tryz.sizeOf3
  have hS : Tryz.prog.underlying 54 = some (.struct (Tryz.prog.fieldsOf 54)) := by kernel_rfl
  have hp : Tryz.prog.stoodInHeld 54 = false := by kernel_rfl
  have hz : (x1 == x1') = false := beq_eq_false_iff_ne.2 h0
  have h : (Op.equalIn 10000 54 (.agg (List.toArray [.int .i64 x0, .int .i64 x1, .int .i64 x2])) (.agg (List.toArray [.int .i64 x0, .int .i64 x1', .int .i64 x2']))).run Tryz.prog w = .ok false w := by
    rw [show (10000 : Nat) = 9999 + 1 from rfl, run_equalIn_agg w 9999 54 _ _ hS hp]
    simp only [Program.fieldsOf, Tryz.underlying54]
    go_simp
    try simp [hz]
  simp only [binOp]
  simp [Op.equal, Op.maxDepth, h]
theorem neqSk_2 (x0 x1 x2 x2' : Int) (h0 : x2 ≠ x2') (w : World) : (binOp .neq 54 (.agg (List.toArray [.int .i64 x0, .int .i64 x1, .int .i64 x2])) (.agg (List.toArray [.int .i64 x0, .int .i64 x1, .int .i64 x2']))).run Tryz.prog w = .ok (.bool true) w := by
  have u3 := Tryz.underlying3
  have a3' := Tryz.isAgg3
  have z3 := Tryz.sizeOf3
  have hS : Tryz.prog.underlying 54 = some (.struct (Tryz.prog.fieldsOf 54)) := by kernel_rfl
  have hp : Tryz.prog.stoodInHeld 54 = false := by kernel_rfl
  have hz : (x2 == x2') = false := beq_eq_false_iff_ne.2 h0
  have h : (Op.equalIn 10000 54 (.agg (List.toArray [.int .i64 x0, .int .i64 x1, .int .i64 x2])) (.agg (List.toArray [.int .i64 x0, .int .i64 x1, .int .i64 x2']))).run Tryz.prog w = .ok false w := by
    rw [show (10000 : Nat) = 9999 + 1 from rfl, run_equalIn_agg w 9999 54 _ _ hS hp]
    simp only [Program.fieldsOf, Tryz.underlying54]
    go_simp
    try simp [hz]
  simp only [binOp]
  simp [Op.equal, Op.maxDepth, h]
theorem neqSk_e (x0 x1 x2 : Int) (w : World) : (binOp .neq 54 (.agg (List.toArray [.int .i64 x0, .int .i64 x1, .int .i64 x2])) (.agg (List.toArray [.int .i64 x0, .int .i64 x1, .int .i64 x2]))).run Tryz.prog w = .ok (.bool false) w := by
  have u3 := Tryz.underlying3
  have a3' := Tryz.isAgg3
  have z3 := Tryz.sizeOf3
  have hS : Tryz.prog.underlying 54 = some (.struct (Tryz.prog.fieldsOf 54)) := by kernel_rfl
  have hp : Tryz.prog.stoodInHeld 54 = false := by kernel_rfl
  have h : (Op.equalIn 10000 54 (.agg (List.toArray [.int .i64 x0, .int .i64 x1, .int .i64 x2])) (.agg (List.toArray [.int .i64 x0, .int .i64 x1, .int .i64 x2]))).run Tryz.prog w = .ok true w := by
    rw [show (10000 : Nat) = 9999 + 1 from rfl, run_equalIn_agg w 9999 54 _ _ hS hp]
    simp only [Program.fieldsOf, Tryz.underlying54]
    go_simp
    try simp
  simp only [binOp]
  simp [Op.equal, Op.maxDepth, h]
theorem neqSk_t (x0 x1 x2 x0' x1' x2' : Int) (h : ¬ (x0 = x0' ∧ x1 = x1' ∧ x2 = x2')) (w : World) : (binOp .neq 54 (.agg (List.toArray [.int .i64 x0, .int .i64 x1, .int .i64 x2])) (.agg (List.toArray [.int .i64 x0', .int .i64 x1', .int .i64 x2']))).run Tryz.prog w = .ok (.bool true) w := by
  by_cases h0 : x0 = x0'
  rotate_left
  · exact neqSk_0 x0 x1 x2 x0' x1' x2' h0 w
  subst h0
  by_cases h1 : x1 = x1'
  rotate_left
  · exact neqSk_1 x0 x1 x2 x1' x2' h1 w
  subst h1
  by_cases h2 : x2 = x2'
  rotate_left
  · exact neqSk_2 x0 x1 x2 x2' h2 w
  subst h2
  exact absurd ⟨rfl, rfl, rfl⟩ h
theorem neqSk_f (x0 x1 x2 x0' x1' x2' : Int) (h : x0 = x0' ∧ x1 = x1' ∧ x2 = x2') (w : World) : (binOp .neq 54 (.agg (List.toArray [.int .i64 x0, .int .i64 x1, .int .i64 x2])) (.agg (List.toArray [.int .i64 x0', .int .i64 x1', .int .i64 x2']))).run Tryz.prog w = .ok (.bool false) w := by
  obtain ⟨rfl, rfl, rfl⟩ := h
  exact neqSk_e x0 x1 x2 w
set_option maxRecDepth 100000 in
set_option maxHeartbeats 8000000 in
theorem equal_is (L : List Lk) (A : Option Addr) (cap : Nat) (L' : List Lk) (A' : Option Addr) (cap' : Nat) (hl : L.length ≤ 1000) (hl' : L'.length ≤ 1000) (w : World) (hL : LkAt A L w) (hL' : LkAt A' L' w) : Calls Tryz.prog 34 #[.slice A L.length cap, .slice A' L'.length cap'] w fun e w' => Bi (L = L') e ∧ Below w.heap.size w w' := by
  have HLK := Lib.hid hL
  have HLK2 := Lib.hid hL'
  have n1 : (L.length : Int) ≤ 1000 := by omega
  have n2 : (L'.length : Int) ≤ 1000 := by omega
  clear hL hL' hl hl'
  by_cases he : L.length = L'.length
  · have HLE := Lib.hid he
    have fa : ((L.length : Int) == (L'.length : Int)) = true := beq_iff_eq.2 (by have := HLE.out; omega)
    have fb : ((L.length : Int) != (L'.length : Int)) = false := by simp [HLE.out]
    have fc : (L.length == L'.length) = true := beq_iff_eq.2 HLE.out
    have fd : (L.length != L'.length) = false := by simp [HLE.out]
    clear he
    go_enter Tryz.func34, Tryz.ntmps34
    go_wp2_with fail
    go_loopw [13] (fun j wr => ∃ n : Nat, n ≤ L.length ∧ j = .int .i64 (n : Int) ∧ Hid (L.take n = L'.take n ∧ Below w.heap.size w wr)) (fun j _ => L.length + 1 - (intOf j).toNat)
    case atStart => exact ⟨0, Nat.zero_le _, rfl, Lib.hid ⟨rfl, Below.refl _ _⟩⟩
    case round =>
      obtain ⟨n, hn, rfl, HM⟩ := hrel
      have i0 : (0 : Int) ≤ (n : Int) := by omega
      by_cases hlt : n < L.length
      · have hltu : n < L.length := hlt
        have hltv : n < L'.length := by have := HLE.out; omega
        obtain ⟨xu, hxu⟩ : ∃ x, L[n]? = some x := ⟨_, List.getElem?_eq_getElem hltu⟩
        obtain ⟨adu, hAu, hbu, hcu⟩ := (HLK.out.below HM.out.2) (by omega)
        obtain ⟨u0, u1', u2'⟩ := hcu n _ hxu
        subst hAu
        obtain ⟨uk, ul, uf⟩ := xu
        simp only at u0 u1' u2'
        have u1 : wr.cell? ⟨(adu.add (n * 3)).block, (adu.add (n * 3)).off + 1, none⟩ = some (.int .i64 ul) := by
          rw [← addp _ 1 (by decide) (World.cell?_spot u0), add_of_add]; exact u1'
        have u2 : wr.cell? ⟨(adu.add (n * 3)).block, (adu.add (n * 3)).off + 2, none⟩ = some (.int .i64 uf) := by
          rw [← addp _ 2 (by decide) (World.cell?_spot u0), add_of_add]; exact u2'
        obtain ⟨xv, hxv⟩ : ∃ x, L'[n]? = some x := ⟨_, List.getElem?_eq_getElem hltv⟩
        obtain ⟨adv, hAv, hbv, hcv⟩ := (HLK2.out.below HM.out.2) (by omega)
        obtain ⟨v0, v1', v2'⟩ := hcv n _ hxv
        subst hAv
        obtain ⟨vk, vl, vf⟩ := xv
        simp only at v0 v1' v2'
        have v1 : wr.cell? ⟨(adv.add (n * 3)).block, (adv.add (n * 3)).off + 1, none⟩ = some (.int .i64 vl) := by
          rw [← addp _ 1 (by decide) (World.cell?_spot v0), add_of_add]; exact v1'
        have v2 : wr.cell? ⟨(adv.add (n * 3)).block, (adv.add (n * 3)).off + 2, none⟩ = some (.int .i64 vf) := by
          rw [← addp _ 2 (by decide) (World.cell?_spot v0), add_of_add]; exact v2'
        have q1 : (n : Int) < (L.length : Int) := by omega
        have q2 : (n : Int) < (L'.length : Int) := by omega
        have Hi := Lib.hid hlt
        have HXu := Lib.hid hxu
        have HXv := Lib.hid hxv
        have gd : Below wr.heap.size wr wr.drew := (Below.refl _ _).drew
        have HMD := Lib.hid (Below.step HM.out.2 gd)
        clear gd hxu hxv hbu hbv hcu hcv u1' u2' v1' v2' hlt hltu hltv hn
        by_cases hq : uk = vk ∧ ul = vl ∧ uf = vf
        · have HQ := Lib.hid hq
          have nz := fun W => neqSk_f uk ul uf vk vl vf HQ.out W
          clear hq
          go_wp2_with fail
          go_region
          go_wp2_with fail
          go_roundw
          case rel =>
            refine ⟨n + 1, Hi.out, by go_num, Lib.hid ⟨?_, HMD.out⟩⟩
            obtain ⟨rfl, rfl, rfl⟩ := HQ.out
            rw [List.take_add_one, List.take_add_one, HM.out.1, HXu.out, HXv.out]
          case measure => have := Hi.out; simp [intOf]; omega
        · have HQ := Lib.hid hq
          have nz := fun W => neqSk_t uk ul uf vk vl vf HQ.out W
          clear hq
          go_wp2_with fail
          go_region
          go_wp2_with fail
          go_ret
          refine ⟨Bi.f (fun eL => ?_), HMD.out⟩
          have h1 := HXu.out
          rw [eL, HXv.out] at h1
          injection h1 with h1
          injection h1 with g1 g2 g3
          exact HQ.out ⟨g1.symm, g2.symm, g3.symm⟩
      · obtain rfl : n = L.length := by omega
        have q5 : decide ((L.length : Int) < (L.length : Int)) = false := decide_eq_false (by omega)
        clear hn hlt
        go_wp2_with fail
        go_ret
        refine ⟨Bi.t ?_, HM.out.2⟩
        have h1 := HM.out.1
        rw [List.take_length, HLE.out, List.take_length] at h1
        exact h1
  · have HLE := Lib.hid he
    have fa : ((L.length : Int) == (L'.length : Int)) = false := beq_eq_false_iff_ne.2 (by have := HLE.out; omega)
    have fb : ((L.length : Int) != (L'.length : Int)) = true := bne_iff_ne.2 (by have := HLE.out; omega)
    have fc : (L.length == L'.length) = false := beq_eq_false_iff_ne.2 HLE.out
    have fd : (L.length != L'.length) = true := bne_iff_ne.2 HLE.out
    clear he
    go_enter Tryz.func34, Tryz.ntmps34
    go_wp2_with fail
    go_ret
    exact ⟨Bi.f (fun e => HLE.out (by rw [e])), Below.refl _ _⟩
set_option maxRecDepth 100000 in
set_option maxHeartbeats 8000000 in
theorem seat_same (k cd t i c : Int) (ask : Bool) (r0 r1 r2 r3 r4 r5 : Int) (L : List Lk) (A : Option Addr) (cap : Nat) (k' cd' t' i' c' : Int) (ask' : Bool) (r0' r1' r2' r3' r4' r5' : Int) (L' : List Lk) (A' : Option Addr) (cap' : Nat) (hl : L.length ≤ 1000) (hl' : L'.length ≤ 1000) (w : World) (hL : LkAt A L w) (hL' : LkAt A' L' w) : Calls Tryz.prog 13 #[.agg (List.toArray [.int .i64 k, .int .i64 cd, .int .i64 t, .int .i64 i, .int .i64 c, .bool ask, .int .i64 r0, .int .i64 r1, .int .i64 r2, .int .i64 r3, .int .i64 r4, .int .i64 r5, .slice A L.length cap]), .agg (List.toArray [.int .i64 k', .int .i64 cd', .int .i64 t', .int .i64 i', .int .i64 c', .bool ask', .int .i64 r0', .int .i64 r1', .int .i64 r2', .int .i64 r3', .int .i64 r4', .int .i64 r5', .slice A' L'.length cap'])] w fun e w' => Bi ((⟨k, cd, t, i, c, ask, r0, r1, r2, r3, r4, r5, L⟩ : Rp) = (⟨k', cd', t', i', c', ask', r0', r1', r2', r3', r4', r5', L'⟩ : Rp)) e ∧ Below w.heap.size w w' := by
  have bR := (Bl.new w [.int .i64 k, .int .i64 cd, .int .i64 t, .int .i64 i, .int .i64 c, .bool ask, .int .i64 r0, .int .i64 r1, .int .i64 r2, .int .i64 r3, .int .i64 r4, .int .i64 r5, .slice A L.length cap] 27).below (w' := ((w.alloc (.cells (List.toArray [.int .i64 k, .int .i64 cd, .int .i64 t, .int .i64 i, .int .i64 c, .bool ask, .int .i64 r0, .int .i64 r1, .int .i64 r2, .int .i64 r3, .int .i64 r4, .int .i64 r5, .slice A L.length cap]) 27)).alloc (.cells (List.toArray [.int .i64 k', .int .i64 cd', .int .i64 t', .int .i64 i', .int .i64 c', .bool ask', .int .i64 r0', .int .i64 r1', .int .i64 r2', .int .i64 r3', .int .i64 r4', .int .i64 r5', .slice A' L'.length cap']) 27))) (by go_grown)
  have bQ := Bl.new (w.alloc (.cells (List.toArray [.int .i64 k, .int .i64 cd, .int .i64 t, .int .i64 i, .int .i64 c, .bool ask, .int .i64 r0, .int .i64 r1, .int .i64 r2, .int .i64 r3, .int .i64 r4, .int .i64 r5, .slice A L.length cap]) 27)) [.int .i64 k', .int .i64 cd', .int .i64 t', .int .i64 i', .int .i64 c', .bool ask', .int .i64 r0', .int .i64 r1', .int .i64 r2', .int .i64 r3', .int .i64 r4', .int .i64 r5', .slice A' L'.length cap'] 27
  have gB : Below w.heap.size w ((w.alloc (.cells (List.toArray [.int .i64 k, .int .i64 cd, .int .i64 t, .int .i64 i, .int .i64 c, .bool ask, .int .i64 r0, .int .i64 r1, .int .i64 r2, .int .i64 r3, .int .i64 r4, .int .i64 r5, .slice A L.length cap]) 27)).alloc (.cells (List.toArray [.int .i64 k', .int .i64 cd', .int .i64 t', .int .i64 i', .int .i64 c', .bool ask', .int .i64 r0', .int .i64 r1', .int .i64 r2', .int .i64 r3', .int .i64 r4', .int .i64 r5', .slice A' L'.length cap']) 27)) := by go_grown
  rw [World.size_alloc] at bQ
  have hL1 := hL.below gB
  have hL2 := hL'.below gB
  obtain ⟨W, hW⟩ : ∃ W, W = ((w.alloc (.cells (List.toArray [.int .i64 k, .int .i64 cd, .int .i64 t, .int .i64 i, .int .i64 c, .bool ask, .int .i64 r0, .int .i64 r1, .int .i64 r2, .int .i64 r3, .int .i64 r4, .int .i64 r5, .slice A L.length cap]) 27)).alloc (.cells (List.toArray [.int .i64 k', .int .i64 cd', .int .i64 t', .int .i64 i', .int .i64 c', .bool ask', .int .i64 r0', .int .i64 r1', .int .i64 r2', .int .i64 r3', .int .i64 r4', .int .i64 r5', .slice A' L'.length cap']) 27)) := ⟨_, rfl⟩
  obtain ⟨RB, hRB⟩ : ∃ RB, RB = w.heap.size := ⟨_, rfl⟩
  obtain ⟨QB, hQB⟩ : ∃ QB, QB = w.heap.size + 1 := ⟨_, rfl⟩
  rw [← hW] at bR bQ gB hL1 hL2
  rw [← hRB] at bR
  rw [← hQB] at bQ
  have HR := Lib.hid bR
  have HQ := Lib.hid bQ
  have HG := Lib.hid gB
  have HWE := Lib.hid hW
  have HRE := Lib.hid hRB
  have HQE := Lib.hid hQB
  have HLK := Lib.hid hL1
  have HLK2 := Lib.hid hL2
  have HLL : Hid (L.length ≤ 1000 ∧ L'.length ≤ 1000) := Lib.hid ⟨hl, hl'⟩
  clear bR bQ gB hW hRB hQB hL hL' hL1 hL2 hl hl'
  go_enter Tryz.func13, Tryz.ntmps13
  go_upto_region 1 with fail
  rw [← HWE.out, ← HQE.out, ← HRE.out]
  have y0 := HR.out.cell 0 _ rfl
  have z0 := HQ.out.cell 0 _ rfl
  have y1 := HR.out.cell 1 _ rfl
  have z1 := HQ.out.cell 1 _ rfl
  have y2 := HR.out.cell 2 _ rfl
  have z2 := HQ.out.cell 2 _ rfl
  have y3 := HR.out.cell 3 _ rfl
  have z3 := HQ.out.cell 3 _ rfl
  have y4 := HR.out.cell 4 _ rfl
  have z4 := HQ.out.cell 4 _ rfl
  have y5 := HR.out.cell 5 _ rfl
  have z5 := HQ.out.cell 5 _ rfl
  have y6 := HR.out.cell 6 _ rfl
  have z6 := HQ.out.cell 6 _ rfl
  have y7 := HR.out.cell 7 _ rfl
  have z7 := HQ.out.cell 7 _ rfl
  have y8 := HR.out.cell 8 _ rfl
  have z8 := HQ.out.cell 8 _ rfl
  have y9 := HR.out.cell 9 _ rfl
  have z9 := HQ.out.cell 9 _ rfl
  have y10 := HR.out.cell 10 _ rfl
  have z10 := HQ.out.cell 10 _ rfl
  have y11 := HR.out.cell 11 _ rfl
  have z11 := HQ.out.cell 11 _ rfl
  have y12 := HR.out.cell 12 _ rfl
  have z12 := HQ.out.cell 12 _ rfl
  by_cases c9 : k = k'
  · have G9 := Lib.hid c9
    clear c9
    have f9p0 : (k == k') = true := beq_iff_eq.2 G9.out
    have f9p1 : (k != k') = false := by simp [G9.out]
    by_cases c10 : cd = cd'
    · have G10 := Lib.hid c10
      clear c10
      have f10p0 : (cd == cd') = true := beq_iff_eq.2 G10.out
      have f10p1 : (cd != cd') = false := by simp [G10.out]
      by_cases c11 : t = t'
      · have G11 := Lib.hid c11
        clear c11
        have f11p0 : (t == t') = true := beq_iff_eq.2 G11.out
        have f11p1 : (t != t') = false := by simp [G11.out]
        by_cases c12 : i = i'
        · have G12 := Lib.hid c12
          clear c12
          have f12p0 : (i == i') = true := beq_iff_eq.2 G12.out
          have f12p1 : (i != i') = false := by simp [G12.out]
          by_cases c13 : c = c'
          · have G13 := Lib.hid c13
            clear c13
            have f13p0 : (c == c') = true := beq_iff_eq.2 G13.out
            have f13p1 : (c != c') = false := by simp [G13.out]
            cases ask with
            | true =>
              cases ask' with
              | true =>
                by_cases hz : r0 = r0' ∧ r1 = r1' ∧ r2 = r2' ∧ r3 = r3' ∧ r4 = r4' ∧ r5 = r5'
                · have GZ := Lib.hid hz
                  have nz := fun W => eqRc_f r0 r1 r2 r3 r4 r5 r0' r1' r2' r3' r4' r5' GZ.out W
                  clear hz
                  go_wp2_with fail
                  refine (equal_is L A cap L' A' cap' HLL.out.1 HLL.out.2 W HLK.out HLK2.out).mono ?_
                  rintro e1 w1 ⟨⟨v, rfl, hv⟩, hb⟩
                  have HB1 := Lib.hid (Below.step HG.out hb)
                  have HV : Hid (v = true ↔ L = L') := Lib.hid hv
                  clear hv hb
                  cases v with
                  | false =>
                    go_wp2_with fail
                    go_ret
                    exact ⟨Bi.f (fun e => by have h := HV.out.2 (congrArg Rp.L e); cases h), HB1.out⟩
                  | true =>
                    go_wp2_with fail
                    go_ret
                    exact ⟨Bi.t (rp_eq G9.out G10.out G11.out G12.out G13.out rfl GZ.out.1 GZ.out.2.1 GZ.out.2.2.1 GZ.out.2.2.2.1 GZ.out.2.2.2.2.1 GZ.out.2.2.2.2.2 (HV.out.1 (by first | exact trivial | exact rfl))), HB1.out⟩
                · have GZ := Lib.hid hz
                  have nz := fun W => eqRc_t r0 r1 r2 r3 r4 r5 r0' r1' r2' r3' r4' r5' GZ.out W
                  clear hz
                  go_wp2_with fail
                  go_ret
                  exact ⟨Bi.f (fun e => GZ.out (E8.of e).2.2.2.2.2.2.1), HG.out⟩
              | false =>
                go_wp2_with fail
                go_ret
                exact ⟨Bi.f (fun e => by have h : (true : Bool) = false := (E8.of e).2.2.2.2.2.1; cases h), HG.out⟩
            | false =>
              cases ask' with
              | true =>
                go_wp2_with fail
                go_ret
                exact ⟨Bi.f (fun e => by have h : (false : Bool) = true := (E8.of e).2.2.2.2.2.1; cases h), HG.out⟩
              | false =>
                by_cases hz : r0 = r0' ∧ r1 = r1' ∧ r2 = r2' ∧ r3 = r3' ∧ r4 = r4' ∧ r5 = r5'
                · have GZ := Lib.hid hz
                  have nz := fun W => eqRc_f r0 r1 r2 r3 r4 r5 r0' r1' r2' r3' r4' r5' GZ.out W
                  clear hz
                  go_wp2_with fail
                  refine (equal_is L A cap L' A' cap' HLL.out.1 HLL.out.2 W HLK.out HLK2.out).mono ?_
                  rintro e1 w1 ⟨⟨v, rfl, hv⟩, hb⟩
                  have HB1 := Lib.hid (Below.step HG.out hb)
                  have HV : Hid (v = true ↔ L = L') := Lib.hid hv
                  clear hv hb
                  cases v with
                  | false =>
                    go_wp2_with fail
                    go_ret
                    exact ⟨Bi.f (fun e => by have h := HV.out.2 (congrArg Rp.L e); cases h), HB1.out⟩
                  | true =>
                    go_wp2_with fail
                    go_ret
                    exact ⟨Bi.t (rp_eq G9.out G10.out G11.out G12.out G13.out rfl GZ.out.1 GZ.out.2.1 GZ.out.2.2.1 GZ.out.2.2.2.1 GZ.out.2.2.2.2.1 GZ.out.2.2.2.2.2 (HV.out.1 (by first | exact trivial | exact rfl))), HB1.out⟩
                · have GZ := Lib.hid hz
                  have nz := fun W => eqRc_t r0 r1 r2 r3 r4 r5 r0' r1' r2' r3' r4' r5' GZ.out W
                  clear hz
                  go_wp2_with fail
                  go_ret
                  exact ⟨Bi.f (fun e => GZ.out (E8.of e).2.2.2.2.2.2.1), HG.out⟩
          · have G13 := Lib.hid c13
            clear c13
            have f13n0 : (c == c') = false := beq_eq_false_iff_ne.2 G13.out
            have f13n1 : (c != c') = true := bne_iff_ne.2 G13.out
            go_wp2_with fail
            go_ret
            exact ⟨Bi.f (fun e => G13.out (E8.of e).2.2.2.2.1), HG.out⟩
        · have G12 := Lib.hid c12
          clear c12
          have f12n0 : (i == i') = false := beq_eq_false_iff_ne.2 G12.out
          have f12n1 : (i != i') = true := bne_iff_ne.2 G12.out
          go_wp2_with fail
          go_ret
          exact ⟨Bi.f (fun e => G12.out (E8.of e).2.2.2.1), HG.out⟩
      · have G11 := Lib.hid c11
        clear c11
        have f11n0 : (t == t') = false := beq_eq_false_iff_ne.2 G11.out
        have f11n1 : (t != t') = true := bne_iff_ne.2 G11.out
        go_wp2_with fail
        go_ret
        exact ⟨Bi.f (fun e => G11.out (E8.of e).2.2.1), HG.out⟩
    · have G10 := Lib.hid c10
      clear c10
      have f10n0 : (cd == cd') = false := beq_eq_false_iff_ne.2 G10.out
      have f10n1 : (cd != cd') = true := bne_iff_ne.2 G10.out
      go_wp2_with fail
      go_ret
      exact ⟨Bi.f (fun e => G10.out (E8.of e).2.1), HG.out⟩
  · have G9 := Lib.hid c9
    clear c9
    have f9n0 : (k == k') = false := beq_eq_false_iff_ne.2 G9.out
    have f9n1 : (k != k') = true := bne_iff_ne.2 G9.out
    go_wp2_with fail
    go_ret
    exact ⟨Bi.f (fun e => G9.out (E8.of e).1), HG.out⟩

end Go.Proofs.YtinciphhoieonaaGreatDoor

/-
  The document's Right, both ways.
-/
import Derived.Test.YtinciphhoieonaaGreatDoorRows
import Derived.Test.YtinciphhoieonaaGreatDoorKit
import Derived.Test.YtinciphhoieonaaGreatDoorApp
import Derived.Test.YtinciphhoieonaaGreatDoorQuiet
import Derived.WalkKit
import Derived.ProofKit
import Derived.OpenShut
import Derived.ShutString
import Derived.Below
import Derived.Outline
import Derived.WalkLawsBesides
import Derived.WalkSpells
import Derived.Handy
import Derived.Deep.QuietTactic
import Derived.BigQuiet
import Derived.RegionTactic
import Derived.ChangeAlike
import Derived.Lib.Hide
import Derived.Laws.Rows
import Derived.Laws.Tables
import Derived.Laws.CopyOwn
import Derived.Laws.MakeOwn
import Derived.Laws.Entries
import Derived.Laws.OwnMore
import Derived.Deep.WholeRow
import Derived.Deep.LoopGhost
import Derived.Deep.AppendLies
import Derived.Deep.Draws
import Derived.Maps.AppendAt
import Derived.OwnWalk
import Derived.Deep.RegionHeld3
import Derived.Deep.Cut
import Derived.Deep.CutRange
import Derived.Deep.DeepCutAuto
import Derived.Deep.CutBlock
import Derived.Lib.SliceRun
import Derived.IntWalk
import Derived.Laws.Strings
import Derived.Lib.Bytealg
import Derived.Lib.Strings
import Derived.Laws.Externs
import Derived.Test.YtinciphhoieonaaGreatDoorAnR
import Derived.Deep.Slices
import Derived.Deep.Fields
import Derived.ChangeSame
import Derived.ChangeArms
import Derived.Deep.MidRow
import Derived.Deep.Upon
namespace Go.Proofs.YtinciphhoieonaaGreatDoor
open Go.ChangeShapes Go.WideShapes Go.ChangeAt Go.RowKit
theorem most_t (x : Int) (h : 0 ≤ x ∧ x ≤ 9999999) (w : World) : Calls Tryz.prog 19 #[.int .i64 x] w fun e w' => e = .returned (.bool true) ∧ w = w' := by
  have := most_is x w
  rwa [show mostB x = true by unfold mostB; simp; omega] at this
theorem most_f (x : Int) (h : ¬ (0 ≤ x ∧ x ≤ 9999999)) (w : World) : Calls Tryz.prog 19 #[.int .i64 x] w fun e w' => e = .returned (.bool false) ∧ w = w' := by
  have := most_is x w
  rwa [show mostB x = false by unfold mostB; simp; omega] at this
theorem neqRec_0 (r0 r1 r2 r3 r4 r5 : Int) (h0 : r0 ≠ 0) (w : World) : (binOp .neq 24 (.agg (List.toArray [.int .i64 r0, .int .i64 r1, .int .i64 r2, .int .i64 r3, .int .i64 r4, .int .i64 r5])) (.agg (List.toArray [.int .i64 0, .int .i64 0, .int .i64 0, .int .i64 0, .int .i64 0, .int .i64 0]))).run Tryz.prog w = .ok (.bool true) w := by
  have u3 := Tryz.underlying3
  have a3' := Tryz.isAgg3
  have z3 := Tryz.sizeOf3
  have hS : Tryz.prog.underlying 24 = some (.struct (Tryz.prog.fieldsOf 24)) := by kernel_rfl
  have hp : Tryz.prog.stoodInHeld 24 = false := by kernel_rfl
  have hz : (r0 == 0) = false := beq_eq_false_iff_ne.2 h0
  have h : (Op.equalIn 10000 24 (.agg (List.toArray [.int .i64 r0, .int .i64 r1, .int .i64 r2, .int .i64 r3, .int .i64 r4, .int .i64 r5])) (.agg (List.toArray [.int .i64 0, .int .i64 0, .int .i64 0, .int .i64 0, .int .i64 0, .int .i64 0]))).run Tryz.prog w = .ok false w := by
    rw [show (10000 : Nat) = 9999 + 1 from rfl, run_equalIn_agg w 9999 24 _ _ hS hp]
    simp only [Program.fieldsOf, Tryz.underlying24]
    go_simp
    try simp [hz]
  simp only [binOp]
  simp [Op.equal, Op.maxDepth, h]
theorem neqRec_1 (r1 r2 r3 r4 r5 : Int) (h0 : r1 ≠ 0) (w : World) : (binOp .neq 24 (.agg (List.toArray [.int .i64 0, .int .i64 r1, .int .i64 r2, .int .i64 r3, .int .i64 r4, .int .i64 r5])) (.agg (List.toArray [.int .i64 0, .int .i64 0, .int .i64 0, .int .i64 0, .int .i64 0, .int .i64 0]))).run Tryz.prog w = .ok (.bool true) w := by
  have u3 := Tryz.underlying3
  have a3' := Tryz.isAgg3
  have z3 := Tryz.sizeOf3
  have hS : Tryz.prog.underlying 24 = some (.struct (Tryz.prog.fieldsOf 24)) := by kernel_rfl
  have hp : Tryz.prog.stoodInHeld 24 = false := by kernel_rfl
  have hz : (r1 == 0) = false := beq_eq_false_iff_ne.2 h0
  have h : (Op.equalIn 10000 24 (.agg (List.toArray [.int .i64 0, .int .i64 r1, .int .i64 r2, .int .i64 r3, .int .i64 r4, .int .i64 r5])) (.agg (List.toArray [.int .i64 0, .int .i64 0, .int .i64 0, .int .i64 0, .int .i64 0, .int .i64 0]))).run Tryz.prog w = .ok false w := by
    rw [show (10000 : Nat) = 9999 + 1 from rfl, run_equalIn_agg w 9999 24 _ _ hS hp]
    simp only [Program.fieldsOf, Tryz.underlying24]
    go_simp
    try simp [hz]
  simp only [binOp]
  simp [Op.equal, Op.maxDepth, h]
theorem neqRec_2 (r2 r3 r4 r5 : Int) (h0 : r2 ≠ 0) (w : World) : (binOp .neq 24 (.agg (List.toArray [.int .i64 0, .int .i64 0, .int .i64 r2, .int .i64 r3, .int .i64 r4, .int .i64 r5])) (.agg (List.toArray [.int .i64 0, .int .i64 0, .int .i64 0, .int .i64 0, .int .i64 0, .int .i64 0]))).run Tryz.prog w = .ok (.bool true) w := by
  have u3 := Tryz.underlying3
  have a3' := Tryz.isAgg3
  have z3 := Tryz.sizeOf3
  have hS : Tryz.prog.underlying 24 = some (.struct (Tryz.prog.fieldsOf 24)) := by kernel_rfl
  have hp : Tryz.prog.stoodInHeld 24 = false := by kernel_rfl
  have hz : (r2 == 0) = false := beq_eq_false_iff_ne.2 h0
  have h : (Op.equalIn 10000 24 (.agg (List.toArray [.int .i64 0, .int .i64 0, .int .i64 r2, .int .i64 r3, .int .i64 r4, .int .i64 r5])) (.agg (List.toArray [.int .i64 0, .int .i64 0, .int .i64 0, .int .i64 0, .int .i64 0, .int .i64 0]))).run Tryz.prog w = .ok false w := by
    rw [show (10000 : Nat) = 9999 + 1 from rfl, run_equalIn_agg w 9999 24 _ _ hS hp]
    simp only [Program.fieldsOf, Tryz.underlying24]
    go_simp
    try simp [hz]
  simp only [binOp]
  simp [Op.equal, Op.maxDepth, h]
theorem neqRec_3 (r3 r4 r5 : Int) (h0 : r3 ≠ 0) (w : World) : (binOp .neq 24 (.agg (List.toArray [.int .i64 0, .int .i64 0, .int .i64 0, .int .i64 r3, .int .i64 r4, .int .i64 r5])) (.agg (List.toArray [.int .i64 0, .int .i64 0, .int .i64 0, .int .i64 0, .int .i64 0, .int .i64 0]))).run Tryz.prog w = .ok (.bool true) w := by
  have u3 := Tryz.underlying3
  have a3' := Tryz.isAgg3
  have z3 := Tryz.sizeOf3
  have hS : Tryz.prog.underlying 24 = some (.struct (Tryz.prog.fieldsOf 24)) := by kernel_rfl
  have hp : Tryz.prog.stoodInHeld 24 = false := by kernel_rfl
  have hz : (r3 == 0) = false := beq_eq_false_iff_ne.2 h0
  have h : (Op.equalIn 10000 24 (.agg (List.toArray [.int .i64 0, .int .i64 0, .int .i64 0, .int .i64 r3, .int .i64 r4, .int .i64 r5])) (.agg (List.toArray [.int .i64 0, .int .i64 0, .int .i64 0, .int .i64 0, .int .i64 0, .int .i64 0]))).run Tryz.prog w = .ok false w := by
    rw [show (10000 : Nat) = 9999 + 1 from rfl, run_equalIn_agg w 9999 24 _ _ hS hp]
    simp only [Program.fieldsOf, Tryz.underlying24]
    go_simp
    try simp [hz]
  simp only [binOp]
  simp [Op.equal, Op.maxDepth, h]
theorem neqRec_4 (r4 r5 : Int) (h0 : r4 ≠ 0) (w : World) : (binOp .neq 24 (.agg (List.toArray [.int .i64 0, .int .i64 0, .int .i64 0, .int .i64 0, .int .i64 r4, .int .i64 r5])) (.agg (List.toArray [.int .i64 0, .int .i64 0, .int .i64 0, .int .i64 0, .int .i64 0, .int .i64 0]))).run Tryz.prog w = .ok (.bool true) w := by
  have u3 := Tryz.underlying3
  have a3' := Tryz.isAgg3
  have z3 := Tryz.sizeOf3
  have hS : Tryz.prog.underlying 24 = some (.struct (Tryz.prog.fieldsOf 24)) := by kernel_rfl
  have hp : Tryz.prog.stoodInHeld 24 = false := by kernel_rfl
  have hz : (r4 == 0) = false := beq_eq_false_iff_ne.2 h0
  have h : (Op.equalIn 10000 24 (.agg (List.toArray [.int .i64 0, .int .i64 0, .int .i64 0, .int .i64 0, .int .i64 r4, .int .i64 r5])) (.agg (List.toArray [.int .i64 0, .int .i64 0, .int .i64 0, .int .i64 0, .int .i64 0, .int .i64 0]))).run Tryz.prog w = .ok false w := by
    rw [show (10000 : Nat) = 9999 + 1 from rfl, run_equalIn_agg w 9999 24 _ _ hS hp]
    simp only [Program.fieldsOf, Tryz.underlying24]
    go_simp
    try simp [hz]
  simp only [binOp]
  simp [Op.equal, Op.maxDepth, h]
theorem neqRec_5 (r5 : Int) (h0 : r5 ≠ 0) (w : World) : (binOp .neq 24 (.agg (List.toArray [.int .i64 0, .int .i64 0, .int .i64 0, .int .i64 0, .int .i64 0, .int .i64 r5])) (.agg (List.toArray [.int .i64 0, .int .i64 0, .int .i64 0, .int .i64 0, .int .i64 0, .int .i64 0]))).run Tryz.prog w = .ok (.bool true) w := by
  have u3 := Tryz.underlying3
  have a3' := Tryz.isAgg3
  have z3 := Tryz.sizeOf3
  have hS : Tryz.prog.underlying 24 = some (.struct (Tryz.prog.fieldsOf 24)) := by kernel_rfl
  have hp : Tryz.prog.stoodInHeld 24 = false := by kernel_rfl
  have hz : (r5 == 0) = false := beq_eq_false_iff_ne.2 h0
  have h : (Op.equalIn 10000 24 (.agg (List.toArray [.int .i64 0, .int .i64 0, .int .i64 0, .int .i64 0, .int .i64 0, .int .i64 r5])) (.agg (List.toArray [.int .i64 0, .int .i64 0, .int .i64 0, .int .i64 0, .int .i64 0, .int .i64 0]))).run Tryz.prog w = .ok false w := by
    rw [show (10000 : Nat) = 9999 + 1 from rfl, run_equalIn_agg w 9999 24 _ _ hS hp]
    simp only [Program.fieldsOf, Tryz.underlying24]
    go_simp
    try simp [hz]
  simp only [binOp]
  simp [Op.equal, Op.maxDepth, h]
theorem neqRecA (r0 r1 r2 r3 r4 r5 : Int) (h : ¬ (r0 = 0 ∧ r1 = 0 ∧ r2 = 0 ∧ r3 = 0 ∧ r4 = 0 ∧ r5 = 0)) (w : World) : (binOp .neq 24 (.agg (List.toArray [.int .i64 r0, .int .i64 r1, .int .i64 r2, .int .i64 r3, .int .i64 r4, .int .i64 r5])) (.agg (List.toArray [.int .i64 0, .int .i64 0, .int .i64 0, .int .i64 0, .int .i64 0, .int .i64 0]))).run Tryz.prog w = .ok (.bool true) w := by
  by_cases h0 : r0 = 0
  rotate_left
  · exact neqRec_0 r0 r1 r2 r3 r4 r5 h0 w
  subst h0
  by_cases h1 : r1 = 0
  rotate_left
  · exact neqRec_1 r1 r2 r3 r4 r5 h1 w
  subst h1
  by_cases h2 : r2 = 0
  rotate_left
  · exact neqRec_2 r2 r3 r4 r5 h2 w
  subst h2
  by_cases h3 : r3 = 0
  rotate_left
  · exact neqRec_3 r3 r4 r5 h3 w
  subst h3
  by_cases h4 : r4 = 0
  rotate_left
  · exact neqRec_4 r4 r5 h4 w
  subst h4
  by_cases h5 : r5 = 0
  rotate_left
  · exact neqRec_5 r5 h5 w
  subst h5
  exact absurd ⟨rfl, rfl, rfl, rfl, rfl, rfl⟩ h
theorem neqRecZA (r0 r1 r2 r3 r4 r5 : Int) (h : r0 = 0 ∧ r1 = 0 ∧ r2 = 0 ∧ r3 = 0 ∧ r4 = 0 ∧ r5 = 0) (w : World) : (binOp .neq 24 (.agg (List.toArray [.int .i64 r0, .int .i64 r1, .int .i64 r2, .int .i64 r3, .int .i64 r4, .int .i64 r5])) (.agg (List.toArray [.int .i64 0, .int .i64 0, .int .i64 0, .int .i64 0, .int .i64 0, .int .i64 0]))).run Tryz.prog w = .ok (.bool false) w := by
  obtain ⟨rfl, rfl, rfl, rfl, rfl, rfl⟩ := h
  exact neqRecZ w
theorem rt_of (k cd t i c : Int) (ask : Bool) (r0 r1 r2 r3 r4 r5 : Int) (L : List Lk) (h1 : (1 ≤ k ∧ k ≤ 4) ∧ (0 ≤ t ∧ t ≤ 1000000) ∧ (0 ≤ i ∧ i ≤ 9999999) ∧ (0 ≤ c ∧ c ≤ 9999999) ∧ 0 ≤ cd) (h3 : (k ≥ 3 → i = 0) ∧ (k = 4 → c = 0)) (h5 : ask = true → k = 2 ∧ cd = 0) (h9 : (r0 = 0 ∧ r1 = 0 ∧ r2 = 0 ∧ r3 = 0 ∧ r4 = 0 ∧ r5 = 0) ∨ (k = 3 ∧ cd = 0 ∧ (1 ≤ r0 ∧ r0 ≤ 5) ∧ (0 ≤ r1 ∧ r1 ≤ 9999999) ∧ (0 ≤ r2 ∧ r2 ≤ 9999999) ∧ (0 ≤ r3 ∧ r3 ≤ 9999999) ∧ r4 = 0 ∧ r5 = 0)) (hl : ∀ (q : Nat) (x : Lk), q < L.length → L[q]? = some x → k = 4 ∧ cd = 0 ∧ lkR x = true) : Rt ⟨k, cd, t, i, c, ask, r0, r1, r2, r3, r4, r5, L⟩ := by
  obtain ⟨a1, a2, a3, a4, a5⟩ := h1
  refine ⟨a1, a2, a5, a3, a4, ?_, ?_, h5, ?_, ?_⟩
  · intro h
    have h' : i ≠ 0 := h
    show k ≤ 2
    omega
  · intro h
    have h' : c ≠ 0 := h
    show k ≤ 3
    omega
  · rcases h9 with h | h
    · left
      obtain ⟨rfl, rfl, rfl, rfl, rfl, rfl⟩ := h
      rfl
    · right
      refine ⟨h.1, h.2.1, ?_⟩
      unfold recR mostB
      simp
      omega
  · cases L with
    | nil => exact Or.inl rfl
    | cons x M =>
      right
      obtain ⟨b1, b2, _⟩ := hl 0 x (by simp) rfl
      refine ⟨b1, b2, fun y hy => ?_⟩
      obtain ⟨q, hq, e⟩ := List.getElem_of_mem hy
      exact (hl q y hq (by rw [List.getElem?_eq_getElem hq, e])).2.2
theorem rt_parts {k cd t i c : Int} {ask : Bool} {r0 r1 r2 r3 r4 r5 : Int} {L : List Lk} (h : Rt ⟨k, cd, t, i, c, ask, r0, r1, r2, r3, r4, r5, L⟩) : ((1 ≤ k ∧ k ≤ 4) ∧ (0 ≤ t ∧ t ≤ 1000000) ∧ (0 ≤ i ∧ i ≤ 9999999) ∧ (0 ≤ c ∧ c ≤ 9999999) ∧ 0 ≤ cd) ∧ ((k ≥ 3 → i = 0) ∧ (k = 4 → c = 0)) ∧ (ask = true → k = 2 ∧ cd = 0) ∧ ((r0 = 0 ∧ r1 = 0 ∧ r2 = 0 ∧ r3 = 0 ∧ r4 = 0 ∧ r5 = 0) ∨ (k = 3 ∧ cd = 0 ∧ (1 ≤ r0 ∧ r0 ≤ 5) ∧ (0 ≤ r1 ∧ r1 ≤ 9999999) ∧ (0 ≤ r2 ∧ r2 ≤ 9999999) ∧ (0 ≤ r3 ∧ r3 ≤ 9999999) ∧ r4 = 0 ∧ r5 = 0)) ∧ ∀ (q : Nat) (x : Lk), q < L.length → L[q]? = some x → k = 4 ∧ cd = 0 ∧ lkR x = true := by
  have h1 : 1 ≤ k ∧ k ≤ 4 := h.k
  have h2 : 0 ≤ t ∧ t ≤ 1000000 := h.t
  have h3 : 0 ≤ cd := h.cd
  have h4 : 0 ≤ i ∧ i ≤ 9999999 := h.i
  have h5 : 0 ≤ c ∧ c ≤ 9999999 := h.c
  have h6 : i ≠ 0 → k ≤ 2 := h.i3
  have h7 : c ≠ 0 → k ≤ 3 := h.c4
  refine ⟨by omega, by omega, h.ask, h.recs, fun q x hq hx => ?_⟩
  rcases h.look with e | ⟨e1, e2, e3⟩
  · have e' : L = [] := e
    rw [e'] at hq
    cases hq
  · exact ⟨e1, e2, e3 x (List.mem_of_getElem? hx)⟩
set_option maxRecDepth 100000 in
set_option maxHeartbeats 8000000 in
theorem rright_is (k cd t i c : Int) (ask : Bool) (r0 r1 r2 r3 r4 r5 : Int) (L : List Lk) (A : Option Addr) (cap : Nat) (hl : L.length ≤ 1000) (w : World) (hL : LkAt A L w) : Calls Tryz.prog 6 #[.agg (List.toArray [.int .i64 k, .int .i64 cd, .int .i64 t, .int .i64 i, .int .i64 c, .bool ask, .int .i64 r0, .int .i64 r1, .int .i64 r2, .int .i64 r3, .int .i64 r4, .int .i64 r5, .slice A L.length cap])] w fun e w' => ∃ b, e = .returned (.bool b) ∧ (b = true ↔ Rt ⟨k, cd, t, i, c, ask, r0, r1, r2, r3, r4, r5, L⟩) ∧ Below w.heap.size w w' := by
  have bR := Bl.new w [.int .i64 k, .int .i64 cd, .int .i64 t, .int .i64 i, .int .i64 c, .bool ask, .int .i64 r0, .int .i64 r1, .int .i64 r2, .int .i64 r3, .int .i64 r4, .int .i64 r5, .slice A L.length cap] 32
  have gB : Below w.heap.size w (w.alloc (.cells (List.toArray [.int .i64 k, .int .i64 cd, .int .i64 t, .int .i64 i, .int .i64 c, .bool ask, .int .i64 r0, .int .i64 r1, .int .i64 r2, .int .i64 r3, .int .i64 r4, .int .i64 r5, .slice A L.length cap]) 32)) := by go_grown
  obtain ⟨W, hW⟩ : ∃ W, W = w.alloc (.cells (List.toArray [.int .i64 k, .int .i64 cd, .int .i64 t, .int .i64 i, .int .i64 c, .bool ask, .int .i64 r0, .int .i64 r1, .int .i64 r2, .int .i64 r3, .int .i64 r4, .int .i64 r5, .slice A L.length cap]) 32) := ⟨_, rfl⟩
  obtain ⟨RB, hRB⟩ : ∃ RB, RB = w.heap.size := ⟨_, rfl⟩
  rw [← hW] at bR gB
  rw [← hRB] at bR
  have HR := Lib.hid bR
  have HG := Lib.hid gB
  have HWE := Lib.hid hW
  have HRE := Lib.hid hRB
  have HLK := Lib.hid hL
  have HLL := Lib.hid hl
  have n1 : (L.length : Int) ≤ 1000 := by omega
  clear bR gB hW hRB hL hl
  go_enter Tryz.func6, Tryz.ntmps6
  go_upto_region 1 with fail
  rw [← HWE.out, ← HRE.out]
  have y0 := HR.out.cell 0 _ rfl
  have y1 := HR.out.cell 1 _ rfl
  have y2 := HR.out.cell 2 _ rfl
  have y3 := HR.out.cell 3 _ rfl
  have y4 := HR.out.cell 4 _ rfl
  have y5 := HR.out.cell 5 _ rfl
  go_cut [40] (fun s wx => ((s = .bool true ∧ ¬ ((1 ≤ k ∧ k ≤ 4) ∧ (0 ≤ t ∧ t ≤ 1000000) ∧ (0 ≤ i ∧ i ≤ 9999999) ∧ (0 ≤ c ∧ c ≤ 9999999) ∧ 0 ≤ cd)) ∨ (s = .bool false ∧ ((1 ≤ k ∧ k ≤ 4) ∧ (0 ≤ t ∧ t ≤ 1000000) ∧ (0 ≤ i ∧ i ≤ 9999999) ∧ (0 ≤ c ∧ c ≤ 9999999) ∧ 0 ≤ cd))) ∧ wx = W)
  case first =>
    as_aux_lemma =>
      by_cases h22 : k < 1
      · have f22a0 : decide (k < 1) = true := decide_eq_true h22
        have G22 := Lib.hid h22
        clear h22
        go_wp2_with fail
        go_meet
        case rel => exact ⟨Or.inl ⟨rfl, fun hP => by have o0 := G22.out; omega⟩, rfl⟩
      · have f22b0 : decide (k < 1) = false := decide_eq_false h22
        have G22 := Lib.hid h22
        clear h22
        by_cases h23 : 4 < k
        · have f23a0 : decide (4 < k) = true := decide_eq_true h23
          have G23 := Lib.hid h23
          clear h23
          go_wp2_with fail
          go_meet
          case rel => exact ⟨Or.inl ⟨rfl, fun hP => by have o0 := G22.out; have o1 := G23.out; omega⟩, rfl⟩
        · have f23b0 : decide (4 < k) = false := decide_eq_false h23
          have G23 := Lib.hid h23
          clear h23
          by_cases h24 : t < 0
          · have f24a0 : decide (t < 0) = true := decide_eq_true h24
            have G24 := Lib.hid h24
            clear h24
            go_wp2_with fail
            go_meet
            case rel => exact ⟨Or.inl ⟨rfl, fun hP => by have o0 := G22.out; have o1 := G23.out; have o2 := G24.out; omega⟩, rfl⟩
          · have f24b0 : decide (t < 0) = false := decide_eq_false h24
            have G24 := Lib.hid h24
            clear h24
            by_cases h25 : 1000000 < t
            · have f25a0 : decide (1000000 < t) = true := decide_eq_true h25
              have G25 := Lib.hid h25
              clear h25
              go_wp2_with fail
              go_meet
              case rel => exact ⟨Or.inl ⟨rfl, fun hP => by have o0 := G22.out; have o1 := G23.out; have o2 := G24.out; have o3 := G25.out; omega⟩, rfl⟩
            · have f25b0 : decide (1000000 < t) = false := decide_eq_false h25
              have G25 := Lib.hid h25
              clear h25
              by_cases h26 : 0 ≤ i ∧ i ≤ 9999999
              · have G26 := Lib.hid h26
                clear h26
                by_cases h27 : 0 ≤ c ∧ c ≤ 9999999
                · have G27 := Lib.hid h27
                  clear h27
                  by_cases h28 : cd < 0
                  · have f28a0 : decide (cd < 0) = true := decide_eq_true h28
                    have G28 := Lib.hid h28
                    clear h28
                    go_wp2_with fail
                    refine (most_t i G26.out _).mono ?_
                    rintro e1 w1 ⟨rfl, hw1⟩
                    subst hw1
                    go_wp2_with fail
                    refine (most_t c G27.out _).mono ?_
                    rintro e1 w1 ⟨rfl, hw1⟩
                    subst hw1
                    go_wp2_with fail
                    go_meet
                    case rel => exact ⟨Or.inl ⟨rfl, fun hP => by have o0 := G22.out; have o1 := G23.out; have o2 := G24.out; have o3 := G25.out; have o4 := G26.out; have o5 := G27.out; have o6 := G28.out; omega⟩, rfl⟩
                  · have f28b0 : decide (cd < 0) = false := decide_eq_false h28
                    have G28 := Lib.hid h28
                    clear h28
                    go_wp2_with fail
                    refine (most_t i G26.out _).mono ?_
                    rintro e1 w1 ⟨rfl, hw1⟩
                    subst hw1
                    go_wp2_with fail
                    refine (most_t c G27.out _).mono ?_
                    rintro e1 w1 ⟨rfl, hw1⟩
                    subst hw1
                    go_wp2_with fail
                    go_meet
                    case rel => exact ⟨Or.inr ⟨rfl, by have o0 := G22.out; have o1 := G23.out; have o2 := G24.out; have o3 := G25.out; have o4 := G26.out; have o5 := G27.out; have o6 := G28.out; omega⟩, rfl⟩
                · have G27 := Lib.hid h27
                  clear h27
                  go_wp2_with fail
                  refine (most_t i G26.out _).mono ?_
                  rintro e1 w1 ⟨rfl, hw1⟩
                  subst hw1
                  go_wp2_with fail
                  refine (most_f c G27.out _).mono ?_
                  rintro e1 w1 ⟨rfl, hw1⟩
                  subst hw1
                  go_wp2_with fail
                  go_meet
                  case rel => exact ⟨Or.inl ⟨rfl, fun hP => by have o0 := G22.out; have o1 := G23.out; have o2 := G24.out; have o3 := G25.out; have o4 := G26.out; have o5 := G27.out; omega⟩, rfl⟩
              · have G26 := Lib.hid h26
                clear h26
                go_wp2_with fail
                refine (most_f i G26.out _).mono ?_
                rintro e1 w1 ⟨rfl, hw1⟩
                subst hw1
                go_wp2_with fail
                go_meet
                case rel => exact ⟨Or.inl ⟨rfl, fun hP => by have o0 := G22.out; have o1 := G23.out; have o2 := G24.out; have o3 := G25.out; have o4 := G26.out; omega⟩, rfl⟩
  case rest =>
    obtain ⟨hs, hwc⟩ := hcut
    subst hwc
    rcases hs with ⟨rfl, hN⟩ | ⟨rfl, hP⟩
    · have HN := Lib.hid hN
      clear hN
      go_wp2_with fail
      go_ret
      exact ⟨false, rfl, ⟨(fun h => by cases h), fun h => absurd (rt_parts h).1 HN.out⟩, HG.out⟩
    have HP1 := Lib.hid hP
    clear hP
    go_upto_region 3 with fail
    go_cut [58] (fun s wx => ((s = .bool true ∧ ¬ ((k ≥ 3 → i = 0) ∧ (k = 4 → c = 0))) ∨ (s = .bool false ∧ ((k ≥ 3 → i = 0) ∧ (k = 4 → c = 0)))) ∧ wx = wc)
    case first =>
      as_aux_lemma =>
        by_cases h29 : 3 ≤ k
        · have f29a0 : decide (3 ≤ k) = true := decide_eq_true h29
          have G29 := Lib.hid h29
          clear h29
          by_cases h30 : i = 0
          · have f30a0 : (i == 0) = true := beq_iff_eq.2 h30
            have f30a1 : (i != 0) = false := by simp [h30]
            have G30 := Lib.hid h30
            clear h30
            by_cases h31 : k = 4
            · have f31a0 : (k == 4) = true := beq_iff_eq.2 h31
              have f31a1 : (k != 4) = false := by simp [h31]
              have G31 := Lib.hid h31
              clear h31
              by_cases h32 : c = 0
              · have f32a0 : (c == 0) = true := beq_iff_eq.2 h32
                have f32a1 : (c != 0) = false := by simp [h32]
                have G32 := Lib.hid h32
                clear h32
                go_wp2_with fail
                go_meet
                case rel => exact ⟨Or.inr ⟨rfl, by have o0 := G29.out; have o1 := G30.out; have o2 := G31.out; have o3 := G32.out; omega⟩, rfl⟩
              · have f32b0 : (c == 0) = false := beq_eq_false_iff_ne.2 h32
                have f32b1 : (c != 0) = true := bne_iff_ne.2 h32
                have G32 := Lib.hid h32
                clear h32
                go_wp2_with fail
                go_meet
                case rel => exact ⟨Or.inl ⟨rfl, fun hP => by have o0 := G29.out; have o1 := G30.out; have o2 := G31.out; have o3 := G32.out; omega⟩, rfl⟩
            · have f31b0 : (k == 4) = false := beq_eq_false_iff_ne.2 h31
              have f31b1 : (k != 4) = true := bne_iff_ne.2 h31
              have G31 := Lib.hid h31
              clear h31
              go_wp2_with fail
              go_meet
              case rel => exact ⟨Or.inr ⟨rfl, by have o0 := G29.out; have o1 := G30.out; have o2 := G31.out; omega⟩, rfl⟩
          · have f30b0 : (i == 0) = false := beq_eq_false_iff_ne.2 h30
            have f30b1 : (i != 0) = true := bne_iff_ne.2 h30
            have G30 := Lib.hid h30
            clear h30
            go_wp2_with fail
            go_meet
            case rel => exact ⟨Or.inl ⟨rfl, fun hP => by have o0 := G29.out; have o1 := G30.out; omega⟩, rfl⟩
        · have f29b0 : decide (3 ≤ k) = false := decide_eq_false h29
          have G29 := Lib.hid h29
          clear h29
          by_cases h33 : k = 4
          · have f33a0 : (k == 4) = true := beq_iff_eq.2 h33
            have f33a1 : (k != 4) = false := by simp [h33]
            have G33 := Lib.hid h33
            clear h33
            by_cases h34 : c = 0
            · have f34a0 : (c == 0) = true := beq_iff_eq.2 h34
              have f34a1 : (c != 0) = false := by simp [h34]
              have G34 := Lib.hid h34
              clear h34
              go_wp2_with fail
              go_meet
              case rel => exact ⟨Or.inr ⟨rfl, by have o0 := G29.out; have o1 := G33.out; have o2 := G34.out; omega⟩, rfl⟩
            · have f34b0 : (c == 0) = false := beq_eq_false_iff_ne.2 h34
              have f34b1 : (c != 0) = true := bne_iff_ne.2 h34
              have G34 := Lib.hid h34
              clear h34
              go_wp2_with fail
              go_meet
              case rel => exact ⟨Or.inl ⟨rfl, fun hP => by have o0 := G29.out; have o1 := G33.out; have o2 := G34.out; omega⟩, rfl⟩
          · have f33b0 : (k == 4) = false := beq_eq_false_iff_ne.2 h33
            have f33b1 : (k != 4) = true := bne_iff_ne.2 h33
            have G33 := Lib.hid h33
            clear h33
            go_wp2_with fail
            go_meet
            case rel => exact ⟨Or.inr ⟨rfl, by have o0 := G29.out; have o1 := G33.out; omega⟩, rfl⟩
    case rest =>
      obtain ⟨hs, hwc⟩ := hcut
      subst hwc
      rcases hs with ⟨rfl, hN⟩ | ⟨rfl, hP⟩
      · have HN := Lib.hid hN
        clear hN
        go_wp2_with fail
        go_ret
        exact ⟨false, rfl, ⟨(fun h => by cases h), fun h => absurd (rt_parts h).2.1 HN.out⟩, HG.out⟩
      have HP3 := Lib.hid hP
      clear hP
      go_upto_region 5 with fail
      go_cut [70] (fun s wx => ((s = .bool true ∧ ¬ (ask = true → k = 2 ∧ cd = 0)) ∨ (s = .bool false ∧ (ask = true → k = 2 ∧ cd = 0))) ∧ wx = wc)
      case first =>
        as_aux_lemma =>
          cases ask with
          | false =>
            go_wp2_with fail
            go_meet
            case rel => exact ⟨Or.inr ⟨rfl, fun h => by cases h⟩, rfl⟩
          | true =>
            by_cases h1 : k = 2
            · have f1a0 : (k == 2) = true := beq_iff_eq.2 h1
              have f1a1 : (k != 2) = false := by simp [h1]
              have G1 := Lib.hid h1
              clear h1
              by_cases h2 : cd = 0
              · have f2a0 : (cd == 0) = true := beq_iff_eq.2 h2
                have f2a1 : (cd != 0) = false := by simp [h2]
                have G2 := Lib.hid h2
                clear h2
                go_wp2_with fail
                go_meet
                case rel => exact ⟨Or.inr ⟨rfl, fun _ => by have o0 := G1.out; have o1 := G2.out; omega⟩, rfl⟩
              · have f2b0 : (cd == 0) = false := beq_eq_false_iff_ne.2 h2
                have f2b1 : (cd != 0) = true := bne_iff_ne.2 h2
                have G2 := Lib.hid h2
                clear h2
                go_wp2_with fail
                go_meet
                case rel => exact ⟨Or.inl ⟨rfl, fun hP => by have o0 := G1.out; have o1 := G2.out; have h5 := hP (by first | exact trivial | exact rfl); omega⟩, rfl⟩
            · have f1b0 : (k == 2) = false := beq_eq_false_iff_ne.2 h1
              have f1b1 : (k != 2) = true := bne_iff_ne.2 h1
              have G1 := Lib.hid h1
              clear h1
              go_wp2_with fail
              go_meet
              case rel => exact ⟨Or.inl ⟨rfl, fun hP => by have o0 := G1.out; have h5 := hP (by first | exact trivial | exact rfl); omega⟩, rfl⟩
      case rest =>
        obtain ⟨hs, hwc⟩ := hcut
        subst hwc
        rcases hs with ⟨rfl, hN⟩ | ⟨rfl, hP⟩
        · have HN := Lib.hid hN
          clear hN
          go_wp2_with fail
          go_ret
          exact ⟨false, rfl, ⟨(fun h => by cases h), fun h => absurd (rt_parts h).2.2.1 HN.out⟩, HG.out⟩
        have HP5 := Lib.hid hP
        clear hP
        clear y0 y1 y2 y3 y4 y5
        have y6 := HR.out.cell 6 _ rfl
        have y7 := HR.out.cell 7 _ rfl
        have y8 := HR.out.cell 8 _ rfl
        have y9 := HR.out.cell 9 _ rfl
        have y10 := HR.out.cell 10 _ rfl
        have y11 := HR.out.cell 11 _ rfl
        go_upto_region 8 with fail
        have g2 : Below wc.heap.size wc (wc.alloc (Obj.cells (List.toArray [.int .i64 r0, .int .i64 r1, .int .i64 r2, .int .i64 r3, .int .i64 r4, .int .i64 r5]) 24)) := by go_grown
        have b2 := Bl.new wc [.int .i64 r0, .int .i64 r1, .int .i64 r2, .int .i64 r3, .int .i64 r4, .int .i64 r5] 24
        obtain ⟨W2, hW2⟩ : ∃ W2, W2 = wc.alloc (Obj.cells (List.toArray [.int .i64 r0, .int .i64 r1, .int .i64 r2, .int .i64 r3, .int .i64 r4, .int .i64 r5]) 24) := ⟨_, rfl⟩
        obtain ⟨XK, hXK⟩ : ∃ XK, XK = wc.heap.size := ⟨_, rfl⟩
        rw [← hW2] at g2 b2 ⊢
        rw [← hXK] at b2 ⊢
        have HR2 := Lib.hid (HR.out.below g2)
        have HX2 := Lib.hid b2
        have HG2 := Lib.hid (Below.step HG.out g2)
        clear hW2 hXK g2 b2 y6 y7 y8 y9 y10 y11
        have x0 := HX2.out.cell 0 _ rfl
        have x1 := HX2.out.cell 1 _ rfl
        have x2 := HX2.out.cell 2 _ rfl
        have x3 := HX2.out.cell 3 _ rfl
        have x4 := HX2.out.cell 4 _ rfl
        have x5 := HX2.out.cell 5 _ rfl
        go_cut [75] (fun s wx => ((s = .bool false ∧ (r0 = 0 ∧ r1 = 0 ∧ r2 = 0 ∧ r3 = 0 ∧ r4 = 0 ∧ r5 = 0)) ∨ (s = .bool true ∧ ¬ (r0 = 0 ∧ r1 = 0 ∧ r2 = 0 ∧ r3 = 0 ∧ r4 = 0 ∧ r5 = 0))) ∧ wx = W2)
        case first =>
          by_cases hz : r0 = 0 ∧ r1 = 0 ∧ r2 = 0 ∧ r3 = 0 ∧ r4 = 0 ∧ r5 = 0
          · have HZ := Lib.hid hz
            have nz := fun W => neqRecZA r0 r1 r2 r3 r4 r5 hz W
            clear hz
            go_wp2_with fail
            go_meet
            case rel => exact ⟨Or.inl ⟨rfl, HZ.out⟩, rfl⟩
          · have nz := fun W => neqRecA r0 r1 r2 r3 r4 r5 hz W
            have HZ := Lib.hid hz
            clear hz
            go_wp2_with fail
            go_meet
            case rel => exact ⟨Or.inr ⟨rfl, HZ.out⟩, rfl⟩
        case rest =>
          obtain ⟨hs, hwc⟩ := hcut
          subst hwc
          have y0 := HR2.out.cell 0 _ rfl
          have y1 := HR2.out.cell 1 _ rfl
          go_upto_if 75 with fail
          go_cut [] (fun wx => ((r0 = 0 ∧ r1 = 0 ∧ r2 = 0 ∧ r3 = 0 ∧ r4 = 0 ∧ r5 = 0) ∨ (k = 3 ∧ cd = 0 ∧ (1 ≤ r0 ∧ r0 ≤ 5) ∧ (0 ≤ r1 ∧ r1 ≤ 9999999) ∧ (0 ≤ r2 ∧ r2 ≤ 9999999) ∧ (0 ≤ r3 ∧ r3 ≤ 9999999) ∧ r4 = 0 ∧ r5 = 0)) ∧ wx = wc)
          case first =>
            rcases hs with ⟨rfl, hz⟩ | ⟨rfl, hz⟩
            · have HZ := Lib.hid hz
              clear hz
              go_wp2_with fail
              go_meet
              case rel => exact ⟨Or.inl HZ.out, rfl⟩
            · have HNZ := Lib.hid hz
              clear hz
              go_upto_region 9 with fail
              go_cut [121] (fun s wx => ((s = .bool true ∧ ¬ (k = 3 ∧ cd = 0 ∧ (1 ≤ r0 ∧ r0 ≤ 5) ∧ (0 ≤ r1 ∧ r1 ≤ 9999999) ∧ (0 ≤ r2 ∧ r2 ≤ 9999999) ∧ (0 ≤ r3 ∧ r3 ≤ 9999999) ∧ r4 = 0 ∧ r5 = 0)) ∨ (s = .bool false ∧ (k = 3 ∧ cd = 0 ∧ (1 ≤ r0 ∧ r0 ≤ 5) ∧ (0 ≤ r1 ∧ r1 ≤ 9999999) ∧ (0 ≤ r2 ∧ r2 ≤ 9999999) ∧ (0 ≤ r3 ∧ r3 ≤ 9999999) ∧ r4 = 0 ∧ r5 = 0))) ∧ wx = wc)
              case first =>
                as_aux_lemma =>
                  by_cases h3 : k = 3
                  · have f3a0 : (k == 3) = true := beq_iff_eq.2 h3
                    have f3a1 : (k != 3) = false := by simp [h3]
                    have G3 := Lib.hid h3
                    clear h3
                    by_cases h4 : cd = 0
                    · have f4a0 : (cd == 0) = true := beq_iff_eq.2 h4
                      have f4a1 : (cd != 0) = false := by simp [h4]
                      have G4 := Lib.hid h4
                      clear h4
                      by_cases h5 : r0 < 1
                      · have f5a0 : decide (r0 < 1) = true := decide_eq_true h5
                        have G5 := Lib.hid h5
                        clear h5
                        go_wp2_with fail
                        go_meet
                        case rel => exact ⟨Or.inl ⟨rfl, fun hP => by have o0 := G3.out; have o1 := G4.out; have o2 := G5.out; omega⟩, rfl⟩
                      · have f5b0 : decide (r0 < 1) = false := decide_eq_false h5
                        have G5 := Lib.hid h5
                        clear h5
                        by_cases h6 : 5 < r0
                        · have f6a0 : decide (5 < r0) = true := decide_eq_true h6
                          have G6 := Lib.hid h6
                          clear h6
                          go_wp2_with fail
                          go_meet
                          case rel => exact ⟨Or.inl ⟨rfl, fun hP => by have o0 := G3.out; have o1 := G4.out; have o2 := G5.out; have o3 := G6.out; omega⟩, rfl⟩
                        · have f6b0 : decide (5 < r0) = false := decide_eq_false h6
                          have G6 := Lib.hid h6
                          clear h6
                          by_cases h7 : 0 ≤ r1 ∧ r1 ≤ 9999999
                          · have G7 := Lib.hid h7
                            clear h7
                            by_cases h8 : 0 ≤ r2 ∧ r2 ≤ 9999999
                            · have G8 := Lib.hid h8
                              clear h8
                              by_cases h9 : 0 ≤ r3 ∧ r3 ≤ 9999999
                              · have G9 := Lib.hid h9
                                clear h9
                                by_cases h10 : r4 = 0
                                · have f10a0 : (r4 == 0) = true := beq_iff_eq.2 h10
                                  have f10a1 : (r4 != 0) = false := by simp [h10]
                                  have G10 := Lib.hid h10
                                  clear h10
                                  by_cases h11 : r5 = 0
                                  · have f11a0 : (r5 == 0) = true := beq_iff_eq.2 h11
                                    have f11a1 : (r5 != 0) = false := by simp [h11]
                                    have G11 := Lib.hid h11
                                    clear h11
                                    go_wp2_with fail
                                    refine (most_t r1 G7.out _).mono ?_
                                    rintro e1 w1 ⟨rfl, hw1⟩
                                    subst hw1
                                    go_wp2_with fail
                                    refine (most_t r2 G8.out _).mono ?_
                                    rintro e1 w1 ⟨rfl, hw1⟩
                                    subst hw1
                                    go_wp2_with fail
                                    refine (most_t r3 G9.out _).mono ?_
                                    rintro e1 w1 ⟨rfl, hw1⟩
                                    subst hw1
                                    go_wp2_with fail
                                    go_meet
                                    case rel => exact ⟨Or.inr ⟨rfl, by have o0 := G3.out; have o1 := G4.out; have o2 := G5.out; have o3 := G6.out; have o4 := G7.out; have o5 := G8.out; have o6 := G9.out; have o7 := G10.out; have o8 := G11.out; omega⟩, rfl⟩
                                  · have f11b0 : (r5 == 0) = false := beq_eq_false_iff_ne.2 h11
                                    have f11b1 : (r5 != 0) = true := bne_iff_ne.2 h11
                                    have G11 := Lib.hid h11
                                    clear h11
                                    go_wp2_with fail
                                    refine (most_t r1 G7.out _).mono ?_
                                    rintro e1 w1 ⟨rfl, hw1⟩
                                    subst hw1
                                    go_wp2_with fail
                                    refine (most_t r2 G8.out _).mono ?_
                                    rintro e1 w1 ⟨rfl, hw1⟩
                                    subst hw1
                                    go_wp2_with fail
                                    refine (most_t r3 G9.out _).mono ?_
                                    rintro e1 w1 ⟨rfl, hw1⟩
                                    subst hw1
                                    go_wp2_with fail
                                    go_meet
                                    case rel => exact ⟨Or.inl ⟨rfl, fun hP => by have o0 := G3.out; have o1 := G4.out; have o2 := G5.out; have o3 := G6.out; have o4 := G7.out; have o5 := G8.out; have o6 := G9.out; have o7 := G10.out; have o8 := G11.out; omega⟩, rfl⟩
                                · have f10b0 : (r4 == 0) = false := beq_eq_false_iff_ne.2 h10
                                  have f10b1 : (r4 != 0) = true := bne_iff_ne.2 h10
                                  have G10 := Lib.hid h10
                                  clear h10
                                  go_wp2_with fail
                                  refine (most_t r1 G7.out _).mono ?_
                                  rintro e1 w1 ⟨rfl, hw1⟩
                                  subst hw1
                                  go_wp2_with fail
                                  refine (most_t r2 G8.out _).mono ?_
                                  rintro e1 w1 ⟨rfl, hw1⟩
                                  subst hw1
                                  go_wp2_with fail
                                  refine (most_t r3 G9.out _).mono ?_
                                  rintro e1 w1 ⟨rfl, hw1⟩
                                  subst hw1
                                  go_wp2_with fail
                                  go_meet
                                  case rel => exact ⟨Or.inl ⟨rfl, fun hP => by have o0 := G3.out; have o1 := G4.out; have o2 := G5.out; have o3 := G6.out; have o4 := G7.out; have o5 := G8.out; have o6 := G9.out; have o7 := G10.out; omega⟩, rfl⟩
                              · have G9 := Lib.hid h9
                                clear h9
                                go_wp2_with fail
                                refine (most_t r1 G7.out _).mono ?_
                                rintro e1 w1 ⟨rfl, hw1⟩
                                subst hw1
                                go_wp2_with fail
                                refine (most_t r2 G8.out _).mono ?_
                                rintro e1 w1 ⟨rfl, hw1⟩
                                subst hw1
                                go_wp2_with fail
                                refine (most_f r3 G9.out _).mono ?_
                                rintro e1 w1 ⟨rfl, hw1⟩
                                subst hw1
                                go_wp2_with fail
                                go_meet
                                case rel => exact ⟨Or.inl ⟨rfl, fun hP => by have o0 := G3.out; have o1 := G4.out; have o2 := G5.out; have o3 := G6.out; have o4 := G7.out; have o5 := G8.out; have o6 := G9.out; omega⟩, rfl⟩
                            · have G8 := Lib.hid h8
                              clear h8
                              go_wp2_with fail
                              refine (most_t r1 G7.out _).mono ?_
                              rintro e1 w1 ⟨rfl, hw1⟩
                              subst hw1
                              go_wp2_with fail
                              refine (most_f r2 G8.out _).mono ?_
                              rintro e1 w1 ⟨rfl, hw1⟩
                              subst hw1
                              go_wp2_with fail
                              go_meet
                              case rel => exact ⟨Or.inl ⟨rfl, fun hP => by have o0 := G3.out; have o1 := G4.out; have o2 := G5.out; have o3 := G6.out; have o4 := G7.out; have o5 := G8.out; omega⟩, rfl⟩
                          · have G7 := Lib.hid h7
                            clear h7
                            go_wp2_with fail
                            refine (most_f r1 G7.out _).mono ?_
                            rintro e1 w1 ⟨rfl, hw1⟩
                            subst hw1
                            go_wp2_with fail
                            go_meet
                            case rel => exact ⟨Or.inl ⟨rfl, fun hP => by have o0 := G3.out; have o1 := G4.out; have o2 := G5.out; have o3 := G6.out; have o4 := G7.out; omega⟩, rfl⟩
                    · have f4b0 : (cd == 0) = false := beq_eq_false_iff_ne.2 h4
                      have f4b1 : (cd != 0) = true := bne_iff_ne.2 h4
                      have G4 := Lib.hid h4
                      clear h4
                      go_wp2_with fail
                      go_meet
                      case rel => exact ⟨Or.inl ⟨rfl, fun hP => by have o0 := G3.out; have o1 := G4.out; omega⟩, rfl⟩
                  · have f3b0 : (k == 3) = false := beq_eq_false_iff_ne.2 h3
                    have f3b1 : (k != 3) = true := bne_iff_ne.2 h3
                    have G3 := Lib.hid h3
                    clear h3
                    go_wp2_with fail
                    go_meet
                    case rel => exact ⟨Or.inl ⟨rfl, fun hP => by have o0 := G3.out; omega⟩, rfl⟩
              case rest =>
                obtain ⟨hs, hwc⟩ := hcut
                subst hwc
                rcases hs with ⟨rfl, hN⟩ | ⟨rfl, hP⟩
                · have HN := Lib.hid hN
                  clear hN
                  go_wp2_with fail
                  go_ret
                  exact ⟨false, rfl, ⟨(fun h => by cases h), fun h => absurd (rt_parts h).2.2.2.1 (fun o => o.elim HNZ.out HN.out)⟩, HG2.out⟩
                have HP9 := Lib.hid hP
                clear hP
                go_wp2_with fail
                go_meet
                case rel => exact ⟨Or.inr HP9.out, rfl⟩
          case rest =>
            obtain ⟨hP, hwc⟩ := hcut
            subst hwc
            have HP9 := Lib.hid hP
            have HP9b := HP9
            clear hP hs y0 y1 x0 x1 x2 x3 x4 x5
            clear HP9b
            go_wp2_with fail
            go_loopw [4] (fun j wr => ∃ n : Nat, n ≤ L.length ∧ j = .int .i64 (n : Int) ∧ Hid ((∀ (q : Nat) (x : Lk), q < n → L[q]? = some x → k = 4 ∧ cd = 0 ∧ lkR x = true) ∧ Bl RB [.int .i64 k, .int .i64 cd, .int .i64 t, .int .i64 i, .int .i64 c, .bool ask, .int .i64 r0, .int .i64 r1, .int .i64 r2, .int .i64 r3, .int .i64 r4, .int .i64 r5, .slice A L.length cap] wr ∧ Below w.heap.size w wr)) (fun j _ => L.length + 1 - (intOf j).toNat)
            case atStart => exact ⟨0, Nat.zero_le _, rfl, Lib.hid ⟨fun q x h => absurd h (by omega), HR2.out, HG2.out⟩⟩
            case round =>
              obtain ⟨n, hn, rfl, HM⟩ := hrel
              have i0 : (0 : Int) ≤ (n : Int) := by omega
              have y12 := HM.out.2.1.cell 12 _ rfl
              by_cases hlt : n < L.length
              · obtain ⟨x, hx⟩ : ∃ x, L[n]? = some x := ⟨_, List.getElem?_eq_getElem hlt⟩
                obtain ⟨ad, hA, hb, hc⟩ := (HLK.out.below HM.out.2.2) (by omega)
                obtain ⟨d0, d1', d2'⟩ := hc n _ hx
                subst hA
                obtain ⟨xk, xl, xf⟩ := x
                simp only at d0 d1' d2'
                have d1 : wr.cell? ⟨(ad.add (n * 3)).block, (ad.add (n * 3)).off + 1, none⟩ = some (.int .i64 xl) := by
                  rw [← addp _ 1 (by decide) (World.cell?_spot d0), add_of_add]; exact d1'
                have d2 : wr.cell? ⟨(ad.add (n * 3)).block, (ad.add (n * 3)).off + 2, none⟩ = some (.int .i64 xf) := by
                  rw [← addp _ 2 (by decide) (World.cell?_spot d0), add_of_add]; exact d2'
                have q1 : (n : Int) < (L.length : Int) := by omega
                have Hi := Lib.hid hlt
                have HX := Lib.hid hx
                have gA : Below wr.heap.size wr (wr.alloc (.cells (List.toArray [.int .i64 xk, .int .i64 xl, .int .i64 xf]) 53)) := by go_grown
                have bA := Bl.new wr [.int .i64 xk, .int .i64 xl, .int .i64 xf] 53
                obtain ⟨WL, hWL⟩ : ∃ WL, WL = (wr.alloc (.cells (List.toArray [.int .i64 xk, .int .i64 xl, .int .i64 xf]) 53)) := ⟨_, rfl⟩
                obtain ⟨LB, hLB⟩ : ∃ LB, LB = wr.heap.size := ⟨_, rfl⟩
                rw [← hWL] at gA bA
                rw [← hLB] at bA
                have HRL := Lib.hid (HM.out.2.1.below gA)
                have HGL := Lib.hid (Below.step HM.out.2.2 gA)
                have HLB := Lib.hid bA
                have HWE2 := Lib.hid hWL
                have HLE2 := Lib.hid hLB
                clear hx hb hc d1' d2' hlt hn gA bA hWL hLB
                go_upto_region 15 with fail
                rw [← HWE2.out, ← HLE2.out]
                clear d0 d1 d2 y12
                have y0 := HRL.out.cell 0 _ rfl
                have y1 := HRL.out.cell 1 _ rfl
                have z0 := HLB.out.cell 0 _ rfl
                have z1 := HLB.out.cell 1 _ rfl
                have z2 := HLB.out.cell 2 _ rfl
                go_cut [173] (fun s wx => ((s = .bool true ∧ ¬ (k = 4 ∧ cd = 0 ∧ ((0 ≤ xk ∧ xk ≤ 8) ∧ (xk < 2 ∨ 4 < xk)) ∧ (0 ≤ xl ∧ xl ≤ 9999999) ∧ (0 ≤ xf ∧ xf ≤ 9999999))) ∨ (s = .bool false ∧ (k = 4 ∧ cd = 0 ∧ ((0 ≤ xk ∧ xk ≤ 8) ∧ (xk < 2 ∨ 4 < xk)) ∧ (0 ≤ xl ∧ xl ≤ 9999999) ∧ (0 ≤ xf ∧ xf ≤ 9999999)))) ∧ wx = WL)
                case first =>
                  as_aux_lemma =>
                    by_cases h12 : k = 4
                    · have f12a0 : (k == 4) = true := beq_iff_eq.2 h12
                      have f12a1 : (k != 4) = false := by simp [h12]
                      have G12 := Lib.hid h12
                      clear h12
                      by_cases h13 : cd = 0
                      · have f13a0 : (cd == 0) = true := beq_iff_eq.2 h13
                        have f13a1 : (cd != 0) = false := by simp [h13]
                        have G13 := Lib.hid h13
                        clear h13
                        by_cases h14 : xk < 0
                        · have f14a0 : decide (xk < 0) = true := decide_eq_true h14
                          have G14 := Lib.hid h14
                          clear h14
                          go_wp2_with fail
                          go_meet
                          case rel => exact ⟨Or.inl ⟨rfl, fun hP => by have o0 := G12.out; have o1 := G13.out; have o2 := G14.out; omega⟩, rfl⟩
                        · have f14b0 : decide (xk < 0) = false := decide_eq_false h14
                          have G14 := Lib.hid h14
                          clear h14
                          by_cases h15 : 8 < xk
                          · have f15a0 : decide (8 < xk) = true := decide_eq_true h15
                            have G15 := Lib.hid h15
                            clear h15
                            go_wp2_with fail
                            go_meet
                            case rel => exact ⟨Or.inl ⟨rfl, fun hP => by have o0 := G12.out; have o1 := G13.out; have o2 := G14.out; have o3 := G15.out; omega⟩, rfl⟩
                          · have f15b0 : decide (8 < xk) = false := decide_eq_false h15
                            have G15 := Lib.hid h15
                            clear h15
                            by_cases h16 : 2 ≤ xk
                            · have f16a0 : decide (2 ≤ xk) = true := decide_eq_true h16
                              have G16 := Lib.hid h16
                              clear h16
                              by_cases h17 : xk ≤ 4
                              · have f17a0 : decide (xk ≤ 4) = true := decide_eq_true h17
                                have G17 := Lib.hid h17
                                clear h17
                                go_wp2_with fail
                                go_meet
                                case rel => exact ⟨Or.inl ⟨rfl, fun hP => by have o0 := G12.out; have o1 := G13.out; have o2 := G14.out; have o3 := G15.out; have o4 := G16.out; have o5 := G17.out; omega⟩, rfl⟩
                              · have f17b0 : decide (xk ≤ 4) = false := decide_eq_false h17
                                have G17 := Lib.hid h17
                                clear h17
                                by_cases h18 : 0 ≤ xl ∧ xl ≤ 9999999
                                · have G18 := Lib.hid h18
                                  clear h18
                                  by_cases h19 : 0 ≤ xf ∧ xf ≤ 9999999
                                  · have G19 := Lib.hid h19
                                    clear h19
                                    go_wp2_with fail
                                    refine (most_t xl G18.out _).mono ?_
                                    rintro e1 w1 ⟨rfl, hw1⟩
                                    subst hw1
                                    go_wp2_with fail
                                    refine (most_t xf G19.out _).mono ?_
                                    rintro e1 w1 ⟨rfl, hw1⟩
                                    subst hw1
                                    go_wp2_with fail
                                    go_meet
                                    case rel => exact ⟨Or.inr ⟨rfl, by have o0 := G12.out; have o1 := G13.out; have o2 := G14.out; have o3 := G15.out; have o4 := G16.out; have o5 := G17.out; have o6 := G18.out; have o7 := G19.out; omega⟩, rfl⟩
                                  · have G19 := Lib.hid h19
                                    clear h19
                                    go_wp2_with fail
                                    refine (most_t xl G18.out _).mono ?_
                                    rintro e1 w1 ⟨rfl, hw1⟩
                                    subst hw1
                                    go_wp2_with fail
                                    refine (most_f xf G19.out _).mono ?_
                                    rintro e1 w1 ⟨rfl, hw1⟩
                                    subst hw1
                                    go_wp2_with fail
                                    go_meet
                                    case rel => exact ⟨Or.inl ⟨rfl, fun hP => by have o0 := G12.out; have o1 := G13.out; have o2 := G14.out; have o3 := G15.out; have o4 := G16.out; have o5 := G17.out; have o6 := G18.out; have o7 := G19.out; omega⟩, rfl⟩
                                · have G18 := Lib.hid h18
                                  clear h18
                                  go_wp2_with fail
                                  refine (most_f xl G18.out _).mono ?_
                                  rintro e1 w1 ⟨rfl, hw1⟩
                                  subst hw1
                                  go_wp2_with fail
                                  go_meet
                                  case rel => exact ⟨Or.inl ⟨rfl, fun hP => by have o0 := G12.out; have o1 := G13.out; have o2 := G14.out; have o3 := G15.out; have o4 := G16.out; have o5 := G17.out; have o6 := G18.out; omega⟩, rfl⟩
                            · have f16b0 : decide (2 ≤ xk) = false := decide_eq_false h16
                              have G16 := Lib.hid h16
                              clear h16
                              by_cases h20 : 0 ≤ xl ∧ xl ≤ 9999999
                              · have G20 := Lib.hid h20
                                clear h20
                                by_cases h21 : 0 ≤ xf ∧ xf ≤ 9999999
                                · have G21 := Lib.hid h21
                                  clear h21
                                  go_wp2_with fail
                                  refine (most_t xl G20.out _).mono ?_
                                  rintro e1 w1 ⟨rfl, hw1⟩
                                  subst hw1
                                  go_wp2_with fail
                                  refine (most_t xf G21.out _).mono ?_
                                  rintro e1 w1 ⟨rfl, hw1⟩
                                  subst hw1
                                  go_wp2_with fail
                                  go_meet
                                  case rel => exact ⟨Or.inr ⟨rfl, by have o0 := G12.out; have o1 := G13.out; have o2 := G14.out; have o3 := G15.out; have o4 := G16.out; have o5 := G20.out; have o6 := G21.out; omega⟩, rfl⟩
                                · have G21 := Lib.hid h21
                                  clear h21
                                  go_wp2_with fail
                                  refine (most_t xl G20.out _).mono ?_
                                  rintro e1 w1 ⟨rfl, hw1⟩
                                  subst hw1
                                  go_wp2_with fail
                                  refine (most_f xf G21.out _).mono ?_
                                  rintro e1 w1 ⟨rfl, hw1⟩
                                  subst hw1
                                  go_wp2_with fail
                                  go_meet
                                  case rel => exact ⟨Or.inl ⟨rfl, fun hP => by have o0 := G12.out; have o1 := G13.out; have o2 := G14.out; have o3 := G15.out; have o4 := G16.out; have o5 := G20.out; have o6 := G21.out; omega⟩, rfl⟩
                              · have G20 := Lib.hid h20
                                clear h20
                                go_wp2_with fail
                                refine (most_f xl G20.out _).mono ?_
                                rintro e1 w1 ⟨rfl, hw1⟩
                                subst hw1
                                go_wp2_with fail
                                go_meet
                                case rel => exact ⟨Or.inl ⟨rfl, fun hP => by have o0 := G12.out; have o1 := G13.out; have o2 := G14.out; have o3 := G15.out; have o4 := G16.out; have o5 := G20.out; omega⟩, rfl⟩
                      · have f13b0 : (cd == 0) = false := beq_eq_false_iff_ne.2 h13
                        have f13b1 : (cd != 0) = true := bne_iff_ne.2 h13
                        have G13 := Lib.hid h13
                        clear h13
                        go_wp2_with fail
                        go_meet
                        case rel => exact ⟨Or.inl ⟨rfl, fun hP => by have o0 := G12.out; have o1 := G13.out; omega⟩, rfl⟩
                    · have f12b0 : (k == 4) = false := beq_eq_false_iff_ne.2 h12
                      have f12b1 : (k != 4) = true := bne_iff_ne.2 h12
                      have G12 := Lib.hid h12
                      clear h12
                      go_wp2_with fail
                      go_meet
                      case rel => exact ⟨Or.inl ⟨rfl, fun hP => by have o0 := G12.out; omega⟩, rfl⟩
                case rest =>
                  obtain ⟨hs, hwc⟩ := hcut
                  subst hwc
                  rcases hs with ⟨rfl, hN⟩ | ⟨rfl, hP⟩
                  · have HN := Lib.hid hN
                    clear hN
                    go_wp2_with fail
                    go_ret
                    exact ⟨false, rfl, ⟨(fun h => by cases h), fun h => absurd (rt_parts h).2.2.2.2 (fun o => HN.out (by have h1 := o n _ Hi.out HX.out; refine ⟨h1.1, h1.2.1, ?_⟩; have h2 := h1.2.2; unfold lkR mostB at h2; simp at h2; omega))⟩, HGL.out⟩
                  have HP15 := Lib.hid hP
                  clear hP
                  go_wp2_with fail
                  go_roundw
                  case rel =>
                    refine ⟨n + 1, Hi.out, by go_num, Lib.hid ⟨fun q x h1 h2 => ?_, HRL.out, HGL.out⟩⟩
                    by_cases hq : q < n
                    · exact HM.out.1 q x hq h2
                    · obtain rfl : q = n := by omega
                      rw [HX.out] at h2
                      injection h2 with h2
                      subst h2
                      have o := HP15.out
                      refine ⟨o.1, o.2.1, ?_⟩
                      unfold lkR mostB
                      simp
                      omega
                  case measure => have := Hi.out; simp [intOf]; omega
              · obtain rfl : n = L.length := by omega
                have q5 : decide ((L.length : Int) < (L.length : Int)) = false := decide_eq_false (by omega)
                clear hn hlt
                go_wp2_with fail
                go_ret
                exact ⟨true, rfl, ⟨(fun _ => rt_of k cd t i c ask r0 r1 r2 r3 r4 r5 L HP1.out HP3.out HP5.out HP9.out HM.out.1), (fun _ => rfl)⟩, HM.out.2.2⟩

end Go.Proofs.YtinciphhoieonaaGreatDoor

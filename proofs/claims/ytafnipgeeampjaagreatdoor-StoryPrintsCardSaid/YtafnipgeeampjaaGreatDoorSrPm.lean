/-
  Runs of events; two events compared.
-/
import Derived.Test.YtafnipgeeampjaaGreatDoorRows
import Derived.Test.YtafnipgeeampjaaGreatDoorKit
import Derived.Test.YtafnipgeeampjaaGreatDoorApp
import Derived.Test.YtafnipgeeampjaaGreatDoorQuiet
import Derived.WalkKit
import Derived.ProofKit
import Derived.OpenShut
import Derived.ShutString
import Derived.Below
import Derived.Outline
import Derived.WalkLawsBesides
import Derived.WalkSpells
import Derived.Handy
import Derived.Deep.QuietTactic
import Derived.BigQuiet
import Derived.RegionTactic
import Derived.ChangeAlike
import Derived.Lib.Hide
import Derived.Laws.Rows
import Derived.Laws.Tables
import Derived.Laws.CopyOwn
import Derived.Laws.MakeOwn
import Derived.Laws.Entries
import Derived.Laws.OwnMore
import Derived.Deep.WholeRow
import Derived.Deep.LoopGhost
import Derived.Deep.AppendLies
import Derived.Deep.Draws
import Derived.Maps.AppendAt
import Derived.OwnWalk
import Derived.Deep.RegionHeld3
import Derived.Deep.Cut
import Derived.Deep.CutRange
import Derived.Deep.DeepCutAuto
import Derived.Deep.CutBlock
import Derived.Lib.SliceRun
import Derived.IntWalk
import Derived.Laws.Strings
import Derived.Lib.Bytealg
import Derived.Lib.Strings
import Derived.Laws.Externs
import Derived.Test.YtafnipgeeampjaaGreatDoorSrN
import Derived.Test.YtafnipgeeampjaaGreatDoorSrO
import Derived.Test.YtafnipgeeampjaaGreatDoorSrT
import Derived.Test.YtafnipgeeampjaaGreatDoorSrL
namespace Go.Proofs.YtafnipgeeampjaaGreatDoor
open Go.ChangeShapes Go.WideShapes Go.ChangeAt Go.RowKit
/-- The first event that a line can't tell. -/
def badM : List Sev → Option Nat
  | [] => none
  | e :: t => if tellM e = true then (badM t).map (· + 1) else some 0
theorem badM_at : ∀ (X : List Sev) (i : Nat) (e : Sev), X[i]? = some e → tellM e = false → (∀ x ∈ X.take i, tellM x = true) → badM X = some i
  | [], i, e, h, _, _ => by simp at h
  | x :: t, 0, e, h, he, _ => by
    simp at h
    subst h
    unfold badM
    rw [if_neg (by rw [he]; decide)]
  | x :: t, i + 1, e, h, he, ha => by
    unfold badM
    rw [if_pos (ha x (by simp)), badM_at t i e (by simpa using h) he (fun y hy => ha y (by simp [hy]))]
    rfl
theorem badM_none : ∀ (X : List Sev), (∀ x ∈ X, tellM x = true) → badM X = none
  | [], _ => rfl
  | x :: t, ha => by
    unfold badM
    rw [if_pos (ha x (List.mem_cons_self ..)), badM_none t (fun y hy => ha y (List.mem_cons_of_mem _ hy))]
    rfl
theorem sev_ext {a b : Sev} (h1 : a.k = b.k) (h2 : a.who = b.who) (h3 : a.n = b.n) (h4 : a.line = b.line) : a = b := by
  cases a
  cases b
  simp_all
/-- The run behind a place. -/
theorem run_take (X : List Sev) (i : Nat) (e : Sev) (h : X[i]? = some e) : X.take (i + timesM e (X.drop (i + 1))) = X.take i ++ List.replicate (timesM e (X.drop (i + 1))) e := by
  obtain ⟨hi, he⟩ := List.getElem?_eq_some_iff.1 h
  have h1 : X.drop i = e :: X.drop (i + 1) := by rw [List.drop_eq_getElem_cons hi, he]
  have h2 := timesM_take e (X.drop (i + 1))
  rw [← h1] at h2
  rw [List.take_add, h2, List.take_left' (by rw [List.length_replicate])]
theorem times_len (X : List Sev) (i : Nat) (e : Sev) (h : X[i]? = some e) : 1 ≤ timesM e (X.drop (i + 1)) ∧ timesM e (X.drop (i + 1)) ≤ 10000 ∧ i + timesM e (X.drop (i + 1)) ≤ X.length := by
  obtain ⟨hi, _⟩ := List.getElem?_eq_some_iff.1 h
  obtain ⟨h1, h2, h3, _⟩ := timesM_bd e (X.drop (i + 1))
  rw [List.length_drop] at h3
  exact ⟨h1, h2, by omega⟩
theorem eqE_gate (a b : Sev) (w : World) : (binOp .eql 40 (.agg #[.int .i64 a.k, .int .i64 a.who, .int .i64 a.n, .string (Bs a.line)]) (.agg #[.int .i64 b.k, .int .i64 b.who, .int .i64 b.n, .string (Bs b.line)])).run Tryz.prog w = .ok (.bool (decide (a = b))) w := by
  have u3 := Tryz.underlying3
  have a3' := Tryz.isAgg3
  have z3 := Tryz.sizeOf3
  have u9 := Tryz.underlying9
  have a9 := Tryz.isAgg9
  have z9 := Tryz.sizeOf9
  have hS : Tryz.prog.underlying 40 = some (.struct (Tryz.prog.fieldsOf 40)) := by kernel_rfl
  have hp : Tryz.prog.stoodInHeld 40 = false := by kernel_rfl
  have e4 := eq_lit a.line b.line
  have h0 : (Op.equalIn 10000 40 (.agg #[.int .i64 a.k, .int .i64 a.who, .int .i64 a.n, .string (Bs a.line)]) (.agg #[.int .i64 b.k, .int .i64 b.who, .int .i64 b.n, .string (Bs b.line)])).run Tryz.prog w = .ok (decide (a = b)) w := by
    have hbl : (Bs b.line).toList = b.line := by rw [ByteArray.toList_eq, Bs_list]
    have hal : (Bs a.line).toList = a.line := by rw [ByteArray.toList_eq, Bs_list]
    rw [show (10000 : Nat) = 9999 + 1 from rfl, run_equalIn_agg w 9999 40 _ _ hS hp]
    simp only [Program.fieldsOf, Tryz.underlying40]
    by_cases h1 : a.k = b.k
    · by_cases h2 : a.who = b.who
      · by_cases h3 : a.n = b.n
        · by_cases h4 : a.line = b.line
          · rw [decide_eq_true (sev_ext h1 h2 h3 h4), h1, h2, h3, h4]
            go_simp
          · rw [decide_eq_false (fun h => h4 (by rw [h]))]
            have q : (a.line == b.line) = false := beq_eq_false_iff_ne.2 h4
            rw [h1, h2, h3]
            go_simp
            try simp [h4, hal, hbl]
        · rw [decide_eq_false (fun h => h3 (by rw [h]))]
          have q : (a.n == b.n) = false := beq_eq_false_iff_ne.2 h3
          rw [h1, h2]
          go_simp
          try simp [h3]
      · rw [decide_eq_false (fun h => h2 (by rw [h]))]
        have q : (a.who == b.who) = false := beq_eq_false_iff_ne.2 h2
        rw [h1]
        go_simp
        try simp [h2]
    · rw [decide_eq_false (fun h => h1 (by rw [h]))]
      have q : (a.k == b.k) = false := beq_eq_false_iff_ne.2 h1
      go_simp
      try simp [h1]
  simp only [binOp]
  simp [Op.equal, Op.maxDepth, h0]
theorem eqE_ref (a b : Sev) (w : World) : (binOp .eql 39 (.agg #[.int .i64 a.k, .int .i64 a.who, .int .i64 a.n, .string (Bs a.line)]) (.agg #[.int .i64 b.k, .int .i64 b.who, .int .i64 b.n, .string (Bs b.line)])).run Tryz.prog w = .ok (.bool (decide (a = b))) w := by
  have u3 := Tryz.underlying3
  have a3' := Tryz.isAgg3
  have z3 := Tryz.sizeOf3
  have u9 := Tryz.underlying9
  have a9 := Tryz.isAgg9
  have z9 := Tryz.sizeOf9
  have hS : Tryz.prog.underlying 39 = some (.struct (Tryz.prog.fieldsOf 39)) := by kernel_rfl
  have hp : Tryz.prog.stoodInHeld 39 = false := by kernel_rfl
  have e4 := eq_lit a.line b.line
  have h0 : (Op.equalIn 10000 39 (.agg #[.int .i64 a.k, .int .i64 a.who, .int .i64 a.n, .string (Bs a.line)]) (.agg #[.int .i64 b.k, .int .i64 b.who, .int .i64 b.n, .string (Bs b.line)])).run Tryz.prog w = .ok (decide (a = b)) w := by
    have hbl : (Bs b.line).toList = b.line := by rw [ByteArray.toList_eq, Bs_list]
    have hal : (Bs a.line).toList = a.line := by rw [ByteArray.toList_eq, Bs_list]
    rw [show (10000 : Nat) = 9999 + 1 from rfl, run_equalIn_agg w 9999 39 _ _ hS hp]
    simp only [Program.fieldsOf, Tryz.underlying39]
    by_cases h1 : a.k = b.k
    · by_cases h2 : a.who = b.who
      · by_cases h3 : a.n = b.n
        · by_cases h4 : a.line = b.line
          · rw [decide_eq_true (sev_ext h1 h2 h3 h4), h1, h2, h3, h4]
            go_simp
          · rw [decide_eq_false (fun h => h4 (by rw [h]))]
            have q : (a.line == b.line) = false := beq_eq_false_iff_ne.2 h4
            rw [h1, h2, h3]
            go_simp
            try simp [h4, hal, hbl]
        · rw [decide_eq_false (fun h => h3 (by rw [h]))]
          have q : (a.n == b.n) = false := beq_eq_false_iff_ne.2 h3
          rw [h1, h2]
          go_simp
          try simp [h3]
      · rw [decide_eq_false (fun h => h2 (by rw [h]))]
        have q : (a.who == b.who) = false := beq_eq_false_iff_ne.2 h2
        rw [h1]
        go_simp
        try simp [h2]
    · rw [decide_eq_false (fun h => h1 (by rw [h]))]
      have q : (a.k == b.k) = false := beq_eq_false_iff_ne.2 h1
      go_simp
      try simp [h1]
  simp only [binOp]
  simp [Op.equal, Op.maxDepth, h0]

end Go.Proofs.YtafnipgeeampjaaGreatDoor

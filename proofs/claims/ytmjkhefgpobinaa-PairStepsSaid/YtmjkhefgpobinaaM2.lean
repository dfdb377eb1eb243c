/-
  Texts of the machine of pairs, part 2.
-/
import Derived.Laws.BitsAllLaws
import Derived.Laws.BitsLemmas
import Derived.BigRegion
import Derived.Test.YtmjkhefgpobinaaM1
namespace Go.Proofs.Ytmjkhefgpobinaa
open Go.ChangeShapes Go.WideShapes Go.ChangeAt Go.RowKit
set_option maxHeartbeats 1000000 in
theorem looseL1 (g l f : Int) (b : Bool) (w : World)  : Calls Try.prog 84 #[.agg #[.int .i64 1, .bool b, .int .i64 g, .int .i64 l, .int .i64 f]] w fun e w' => e = .returned (.bool true) ∧ Below w.heap.size w w' := by
  go_enter Try.func84, Try.ntmps84
  go_wp2
  go_ret
  exact ⟨rfl, by go_grown⟩
set_option maxHeartbeats 1000000 in
theorem heldL1 (g l f : Int) (b : Bool) (w : World)  : Calls Try.prog 15 #[.agg #[.int .i64 1, .bool b, .int .i64 g, .int .i64 l, .int .i64 f]] w fun e w' => e = .returned (.bool false) ∧ Below w.heap.size w w' := by
  go_enter Try.func15, Try.ntmps15
  go_wp2
  go_ret
  exact ⟨rfl, by go_grown⟩
set_option maxHeartbeats 1000000 in
theorem overL1 (g l f : Int) (b : Bool) (w : World)  : Calls Try.prog 64 #[.agg #[.int .i64 1, .bool b, .int .i64 g, .int .i64 l, .int .i64 f]] w fun e w' => e = .returned (.bool false) ∧ Below w.heap.size w w' := by
  go_enter Try.func64, Try.ntmps64
  go_wp2
  go_ret
  exact ⟨rfl, by go_grown⟩
set_option maxHeartbeats 1000000 in
theorem rlooseL1  (w : World)  : Calls Try.prog 31 #[.int .i64 1] w fun e w' => e = .returned (.bool true) ∧ Below w.heap.size w w' := by
  go_enter Try.func31, Try.ntmps31
  go_wp2
  go_ret
  exact ⟨rfl, by go_grown⟩
set_option maxHeartbeats 1000000 in
theorem looseL2 (g l f : Int) (b : Bool) (w : World)  : Calls Try.prog 84 #[.agg #[.int .i64 2, .bool b, .int .i64 g, .int .i64 l, .int .i64 f]] w fun e w' => e = .returned (.bool true) ∧ Below w.heap.size w w' := by
  go_enter Try.func84, Try.ntmps84
  go_wp2
  go_ret
  exact ⟨rfl, by go_grown⟩
set_option maxHeartbeats 1000000 in
theorem heldL2 (g l f : Int) (b : Bool) (w : World)  : Calls Try.prog 15 #[.agg #[.int .i64 2, .bool b, .int .i64 g, .int .i64 l, .int .i64 f]] w fun e w' => e = .returned (.bool false) ∧ Below w.heap.size w w' := by
  go_enter Try.func15, Try.ntmps15
  go_wp2
  go_ret
  exact ⟨rfl, by go_grown⟩
set_option maxHeartbeats 1000000 in
theorem overL2 (g l f : Int) (b : Bool) (w : World)  : Calls Try.prog 64 #[.agg #[.int .i64 2, .bool b, .int .i64 g, .int .i64 l, .int .i64 f]] w fun e w' => e = .returned (.bool false) ∧ Below w.heap.size w w' := by
  go_enter Try.func64, Try.ntmps64
  go_wp2
  go_ret
  exact ⟨rfl, by go_grown⟩
set_option maxHeartbeats 1000000 in
theorem rlooseL2  (w : World)  : Calls Try.prog 31 #[.int .i64 2] w fun e w' => e = .returned (.bool true) ∧ Below w.heap.size w w' := by
  go_enter Try.func31, Try.ntmps31
  go_wp2
  go_ret
  exact ⟨rfl, by go_grown⟩
set_option maxHeartbeats 1000000 in
theorem looseH3 (g l f : Int) (b : Bool) (w : World)  : Calls Try.prog 84 #[.agg #[.int .i64 3, .bool b, .int .i64 g, .int .i64 l, .int .i64 f]] w fun e w' => e = .returned (.bool false) ∧ Below w.heap.size w w' := by
  go_enter Try.func84, Try.ntmps84
  go_wp2
  go_ret
  exact ⟨rfl, by go_grown⟩
set_option maxHeartbeats 1000000 in
theorem heldH3 (g l f : Int) (b : Bool) (w : World)  : Calls Try.prog 15 #[.agg #[.int .i64 3, .bool b, .int .i64 g, .int .i64 l, .int .i64 f]] w fun e w' => e = .returned (.bool true) ∧ Below w.heap.size w w' := by
  go_enter Try.func15, Try.ntmps15
  go_wp2
  go_ret
  exact ⟨rfl, by go_grown⟩
set_option maxHeartbeats 1000000 in
theorem overH3 (g l f : Int) (b : Bool) (w : World)  : Calls Try.prog 64 #[.agg #[.int .i64 3, .bool b, .int .i64 g, .int .i64 l, .int .i64 f]] w fun e w' => e = .returned (.bool false) ∧ Below w.heap.size w w' := by
  go_enter Try.func64, Try.ntmps64
  go_wp2
  go_ret
  exact ⟨rfl, by go_grown⟩
set_option maxHeartbeats 1000000 in
theorem rlooseH3  (w : World)  : Calls Try.prog 31 #[.int .i64 3] w fun e w' => e = .returned (.bool false) ∧ Below w.heap.size w w' := by
  go_enter Try.func31, Try.ntmps31
  go_wp2
  go_ret
  exact ⟨rfl, by go_grown⟩
set_option maxHeartbeats 1000000 in
theorem looseH4 (g l f : Int) (b : Bool) (w : World)  : Calls Try.prog 84 #[.agg #[.int .i64 4, .bool b, .int .i64 g, .int .i64 l, .int .i64 f]] w fun e w' => e = .returned (.bool false) ∧ Below w.heap.size w w' := by
  go_enter Try.func84, Try.ntmps84
  go_wp2
  go_ret
  exact ⟨rfl, by go_grown⟩
set_option maxHeartbeats 1000000 in
theorem heldH4 (g l f : Int) (b : Bool) (w : World)  : Calls Try.prog 15 #[.agg #[.int .i64 4, .bool b, .int .i64 g, .int .i64 l, .int .i64 f]] w fun e w' => e = .returned (.bool true) ∧ Below w.heap.size w w' := by
  go_enter Try.func15, Try.ntmps15
  go_wp2
  go_ret
  exact ⟨rfl, by go_grown⟩
set_option maxHeartbeats 1000000 in
theorem overH4 (g l f : Int) (b : Bool) (w : World)  : Calls Try.prog 64 #[.agg #[.int .i64 4, .bool b, .int .i64 g, .int .i64 l, .int .i64 f]] w fun e w' => e = .returned (.bool false) ∧ Below w.heap.size w w' := by
  go_enter Try.func64, Try.ntmps64
  go_wp2
  go_ret
  exact ⟨rfl, by go_grown⟩
set_option maxHeartbeats 1000000 in
theorem rlooseH4  (w : World)  : Calls Try.prog 31 #[.int .i64 4] w fun e w' => e = .returned (.bool false) ∧ Below w.heap.size w w' := by
  go_enter Try.func31, Try.ntmps31
  go_wp2
  go_ret
  exact ⟨rfl, by go_grown⟩
set_option maxHeartbeats 1000000 in
theorem looseO (k g l f : Int) (b : Bool) (w : World) (h1 : 5 ≤ k) (h2 : k ≤ 8) : Calls Try.prog 84 #[.agg #[.int .i64 k, .bool b, .int .i64 g, .int .i64 l, .int .i64 f]] w fun e w' => e = .returned (.bool false) ∧ Below w.heap.size w w' := by
  have e1 : (k == 1) = false := by rw [beq_eq_false_iff_ne]; omega
  have e2 : (k == 2) = false := by rw [beq_eq_false_iff_ne]; omega
  have e3 : (k == 3) = false := by rw [beq_eq_false_iff_ne]; omega
  have e4 : (k == 4) = false := by rw [beq_eq_false_iff_ne]; omega
  go_enter Try.func84, Try.ntmps84
  go_wp2
  go_ret
  exact ⟨rfl, by go_grown⟩
set_option maxHeartbeats 1000000 in
theorem heldO (k g l f : Int) (b : Bool) (w : World) (h1 : 5 ≤ k) (h2 : k ≤ 8) : Calls Try.prog 15 #[.agg #[.int .i64 k, .bool b, .int .i64 g, .int .i64 l, .int .i64 f]] w fun e w' => e = .returned (.bool false) ∧ Below w.heap.size w w' := by
  have e1 : (k == 1) = false := by rw [beq_eq_false_iff_ne]; omega
  have e2 : (k == 2) = false := by rw [beq_eq_false_iff_ne]; omega
  have e3 : (k == 3) = false := by rw [beq_eq_false_iff_ne]; omega
  have e4 : (k == 4) = false := by rw [beq_eq_false_iff_ne]; omega
  go_enter Try.func15, Try.ntmps15
  go_wp2
  go_ret
  exact ⟨rfl, by go_grown⟩
set_option maxHeartbeats 1000000 in
theorem overO (k g l f : Int) (b : Bool) (w : World) (h1 : 5 ≤ k) (h2 : k ≤ 8) : Calls Try.prog 64 #[.agg #[.int .i64 k, .bool b, .int .i64 g, .int .i64 l, .int .i64 f]] w fun e w' => e = .returned (.bool true) ∧ Below w.heap.size w w' := by
  have e1 : (k == 1) = false := by rw [beq_eq_false_iff_ne]; omega
  have e2 : (k == 2) = false := by rw [beq_eq_false_iff_ne]; omega
  have e3 : (k == 3) = false := by rw [beq_eq_false_iff_ne]; omega
  have e4 : (k == 4) = false := by rw [beq_eq_false_iff_ne]; omega
  go_enter Try.func64, Try.ntmps64
  go_wp2
  go_ret
  exact ⟨rfl, by go_grown⟩
set_option maxHeartbeats 1000000 in
theorem rlooseO (k : Int) (w : World) (h1 : 5 ≤ k) (h2 : k ≤ 8) : Calls Try.prog 31 #[.int .i64 k] w fun e w' => e = .returned (.bool false) ∧ Below w.heap.size w w' := by
  have e1 : (k == 1) = false := by rw [beq_eq_false_iff_ne]; omega
  have e2 : (k == 2) = false := by rw [beq_eq_false_iff_ne]; omega
  have e3 : (k == 3) = false := by rw [beq_eq_false_iff_ne]; omega
  have e4 : (k == 4) = false := by rw [beq_eq_false_iff_ne]; omega
  go_enter Try.func31, Try.ntmps31
  go_wp2
  go_ret
  exact ⟨rfl, by go_grown⟩
set_option maxHeartbeats 1000000 in
theorem looseN (k g l f : Int) (b : Bool) (w : World) (h1 : k < 5) (n1 : k ≠ 1) (n2 : k ≠ 2) (n3 : k ≠ 3) (n4 : k ≠ 4) : Calls Try.prog 84 #[.agg #[.int .i64 k, .bool b, .int .i64 g, .int .i64 l, .int .i64 f]] w fun e w' => e = .returned (.bool false) ∧ Below w.heap.size w w' := by
  have e1 : (k == 1) = false := by rw [beq_eq_false_iff_ne]; omega
  have e2 : (k == 2) = false := by rw [beq_eq_false_iff_ne]; omega
  have e3 : (k == 3) = false := by rw [beq_eq_false_iff_ne]; omega
  have e4 : (k == 4) = false := by rw [beq_eq_false_iff_ne]; omega
  have hd : decide (5 ≤ k) = false := decide_eq_false (by omega)
  go_enter Try.func84, Try.ntmps84
  go_wp2
  go_ret
  exact ⟨rfl, by go_grown⟩
set_option maxHeartbeats 1000000 in
theorem heldN (k g l f : Int) (b : Bool) (w : World) (h1 : k < 5) (n1 : k ≠ 1) (n2 : k ≠ 2) (n3 : k ≠ 3) (n4 : k ≠ 4) : Calls Try.prog 15 #[.agg #[.int .i64 k, .bool b, .int .i64 g, .int .i64 l, .int .i64 f]] w fun e w' => e = .returned (.bool false) ∧ Below w.heap.size w w' := by
  have e1 : (k == 1) = false := by rw [beq_eq_false_iff_ne]; omega
  have e2 : (k == 2) = false := by rw [beq_eq_false_iff_ne]; omega
  have e3 : (k == 3) = false := by rw [beq_eq_false_iff_ne]; omega
  have e4 : (k == 4) = false := by rw [beq_eq_false_iff_ne]; omega
  have hd : decide (5 ≤ k) = false := decide_eq_false (by omega)
  go_enter Try.func15, Try.ntmps15
  go_wp2
  go_ret
  exact ⟨rfl, by go_grown⟩
set_option maxHeartbeats 1000000 in
theorem overN (k g l f : Int) (b : Bool) (w : World) (h1 : k < 5) (n1 : k ≠ 1) (n2 : k ≠ 2) (n3 : k ≠ 3) (n4 : k ≠ 4) : Calls Try.prog 64 #[.agg #[.int .i64 k, .bool b, .int .i64 g, .int .i64 l, .int .i64 f]] w fun e w' => e = .returned (.bool false) ∧ Below w.heap.size w w' := by
  have e1 : (k == 1) = false := by rw [beq_eq_false_iff_ne]; omega
  have e2 : (k == 2) = false := by rw [beq_eq_false_iff_ne]; omega
  have e3 : (k == 3) = false := by rw [beq_eq_false_iff_ne]; omega
  have e4 : (k == 4) = false := by rw [beq_eq_false_iff_ne]; omega
  have hd : decide (5 ≤ k) = false := decide_eq_false (by omega)
  go_enter Try.func64, Try.ntmps64
  go_wp2
  go_ret
  exact ⟨rfl, by go_grown⟩
set_option maxHeartbeats 1000000 in
theorem rlooseN (k : Int) (w : World) (h1 : k < 5) (n1 : k ≠ 1) (n2 : k ≠ 2) (n3 : k ≠ 3) (n4 : k ≠ 4) : Calls Try.prog 31 #[.int .i64 k] w fun e w' => e = .returned (.bool false) ∧ Below w.heap.size w w' := by
  have e1 : (k == 1) = false := by rw [beq_eq_false_iff_ne]; omega
  have e2 : (k == 2) = false := by rw [beq_eq_false_iff_ne]; omega
  have e3 : (k == 3) = false := by rw [beq_eq_false_iff_ne]; omega
  have e4 : (k == 4) = false := by rw [beq_eq_false_iff_ne]; omega
  have hd : decide (5 ≤ k) = false := decide_eq_false (by omega)
  go_enter Try.func31, Try.ntmps31
  go_wp2
  go_ret
  exact ⟨rfl, by go_grown⟩
set_option maxHeartbeats 1000000 in
theorem looseX (k g l f : Int) (b : Bool) (w : World) (h1 : 8 < k) : Calls Try.prog 84 #[.agg #[.int .i64 k, .bool b, .int .i64 g, .int .i64 l, .int .i64 f]] w fun e w' => e = .returned (.bool false) ∧ Below w.heap.size w w' := by
  have e1 : (k == 1) = false := by rw [beq_eq_false_iff_ne]; omega
  have e2 : (k == 2) = false := by rw [beq_eq_false_iff_ne]; omega
  have e3 : (k == 3) = false := by rw [beq_eq_false_iff_ne]; omega
  have e4 : (k == 4) = false := by rw [beq_eq_false_iff_ne]; omega
  have hd : decide (k ≤ 8) = false := decide_eq_false (by omega)
  go_enter Try.func84, Try.ntmps84
  go_wp2
  go_ret
  exact ⟨rfl, by go_grown⟩
set_option maxHeartbeats 1000000 in
theorem heldX (k g l f : Int) (b : Bool) (w : World) (h1 : 8 < k) : Calls Try.prog 15 #[.agg #[.int .i64 k, .bool b, .int .i64 g, .int .i64 l, .int .i64 f]] w fun e w' => e = .returned (.bool false) ∧ Below w.heap.size w w' := by
  have e1 : (k == 1) = false := by rw [beq_eq_false_iff_ne]; omega
  have e2 : (k == 2) = false := by rw [beq_eq_false_iff_ne]; omega
  have e3 : (k == 3) = false := by rw [beq_eq_false_iff_ne]; omega
  have e4 : (k == 4) = false := by rw [beq_eq_false_iff_ne]; omega
  have hd : decide (k ≤ 8) = false := decide_eq_false (by omega)
  go_enter Try.func15, Try.ntmps15
  go_wp2
  go_ret
  exact ⟨rfl, by go_grown⟩
set_option maxHeartbeats 1000000 in
theorem overX (k g l f : Int) (b : Bool) (w : World) (h1 : 8 < k) : Calls Try.prog 64 #[.agg #[.int .i64 k, .bool b, .int .i64 g, .int .i64 l, .int .i64 f]] w fun e w' => e = .returned (.bool false) ∧ Below w.heap.size w w' := by
  have e1 : (k == 1) = false := by rw [beq_eq_false_iff_ne]; omega
  have e2 : (k == 2) = false := by rw [beq_eq_false_iff_ne]; omega
  have e3 : (k == 3) = false := by rw [beq_eq_false_iff_ne]; omega
  have e4 : (k == 4) = false := by rw [beq_eq_false_iff_ne]; omega
  have hd : decide (k ≤ 8) = false := decide_eq_false (by omega)
  go_enter Try.func64, Try.ntmps64
  go_wp2
  go_ret
  exact ⟨rfl, by go_grown⟩
set_option maxHeartbeats 1000000 in
theorem rlooseX (k : Int) (w : World) (h1 : 8 < k) : Calls Try.prog 31 #[.int .i64 k] w fun e w' => e = .returned (.bool false) ∧ Below w.heap.size w w' := by
  have e1 : (k == 1) = false := by rw [beq_eq_false_iff_ne]; omega
  have e2 : (k == 2) = false := by rw [beq_eq_false_iff_ne]; omega
  have e3 : (k == 3) = false := by rw [beq_eq_false_iff_ne]; omega
  have e4 : (k == 4) = false := by rw [beq_eq_false_iff_ne]; omega
  have hd : decide (k ≤ 8) = false := decide_eq_false (by omega)
  go_enter Try.func31, Try.ntmps31
  go_wp2
  go_ret
  exact ⟨rfl, by go_grown⟩
set_option maxHeartbeats 1000000 in
theorem end_yes (k g l f t : Int) (b : Bool) (w : World) (h1 : 5 ≤ k) (h2 : k ≤ 8) : Calls Try.prog 66 #[.agg #[.int .i64 k, .bool b, .int .i64 g, .int .i64 l, .int .i64 f], .int .i64 t] w fun e w' => e = .returned (.tuple #[.agg #[.int .i64 (k - 3), .int .i64 l, .int .i64 f, .int .i64 t, .int .i64 0, .int .i64 0], .bool true]) ∧ Below w.heap.size w w' := by
  go_enter Try.func66, Try.ntmps66
  go_wp2
  refine bodyPost_ret (v := .tuple #[.agg #[.int .i64 (k - 3), .int .i64 l, .int .i64 f, .int .i64 t, .int .i64 0, .int .i64 0], .bool true]) (by simp [results, Try.results66, go_sem]; try omega) rfl ⟨rfl, ?_⟩
  go_grown
set_option maxHeartbeats 1000000 in
theorem end_low (k g l f t : Int) (b : Bool) (w : World) (h1 : k < 5) : Calls Try.prog 66 #[.agg #[.int .i64 k, .bool b, .int .i64 g, .int .i64 l, .int .i64 f], .int .i64 t] w fun e w' => e = .returned (.tuple #[.agg #[.int .i64 0, .int .i64 0, .int .i64 0, .int .i64 0, .int .i64 0, .int .i64 0], .bool false]) ∧ Below w.heap.size w w' := by
  have hd : decide (5 ≤ k) = false := decide_eq_false (by omega)
  go_enter Try.func66, Try.ntmps66
  go_wp2
  refine bodyPost_ret (v := .tuple #[.agg #[.int .i64 0, .int .i64 0, .int .i64 0, .int .i64 0, .int .i64 0, .int .i64 0], .bool false]) (by simp [results, Try.results66, go_sem]) rfl ⟨rfl, ?_⟩
  go_grown
set_option maxHeartbeats 1000000 in
theorem end_high (k g l f t : Int) (b : Bool) (w : World) (h1 : 8 < k) : Calls Try.prog 66 #[.agg #[.int .i64 k, .bool b, .int .i64 g, .int .i64 l, .int .i64 f], .int .i64 t] w fun e w' => e = .returned (.tuple #[.agg #[.int .i64 0, .int .i64 0, .int .i64 0, .int .i64 0, .int .i64 0, .int .i64 0], .bool false]) ∧ Below w.heap.size w w' := by
  have hd : decide (k ≤ 8) = false := decide_eq_false (by omega)
  have hd2 : 5 ≤ k := by omega
  go_enter Try.func66, Try.ntmps66
  go_wp2
  refine bodyPost_ret (v := .tuple #[.agg #[.int .i64 0, .int .i64 0, .int .i64 0, .int .i64 0, .int .i64 0, .int .i64 0], .bool false]) (by simp [results, Try.results66, go_sem]) rfl ⟨rfl, ?_⟩
  go_grown
end Go.Proofs.Ytmjkhefgpobinaa
namespace Go.Proofs.Ytmjkhefgpobinaa
open Go.ChangeShapes Go.WideShapes Go.ChangeAt Go.RowKit
set_option maxHeartbeats 1000000 in
theorem hold_1 (g l f : Int) (b : Bool) (w : World)  : Calls Try.prog 60 #[.agg #[.int .i64 1, .bool b, .int .i64 g, .int .i64 l, .int .i64 f]] w fun e w' => e = .returned (.agg #[.int .i64 3, .bool b, .int .i64 g, .int .i64 l, .int .i64 f]) ∧ Below w.heap.size w w' := by
  go_enter Try.func60, Try.ntmps60
  go_wp2
  refine bodyPost_ret (by simp [results, Try.results60, go_sem]; try rfl) rfl ⟨rfl, ?_⟩
  go_grown
set_option maxHeartbeats 1000000 in
theorem hold_2 (g l f : Int) (b : Bool) (w : World)  : Calls Try.prog 60 #[.agg #[.int .i64 2, .bool b, .int .i64 g, .int .i64 l, .int .i64 f]] w fun e w' => e = .returned (.agg #[.int .i64 4, .bool b, .int .i64 g, .int .i64 l, .int .i64 f]) ∧ Below w.heap.size w w' := by
  go_enter Try.func60, Try.ntmps60
  go_wp2
  refine bodyPost_ret (by simp [results, Try.results60, go_sem]; try rfl) rfl ⟨rfl, ?_⟩
  go_grown
set_option maxHeartbeats 1000000 in
theorem hold_same (k g l f : Int) (b : Bool) (w : World) (n1 : k ≠ 1) (n2 : k ≠ 2) : Calls Try.prog 60 #[.agg #[.int .i64 k, .bool b, .int .i64 g, .int .i64 l, .int .i64 f]] w fun e w' => e = .returned (.agg #[.int .i64 k, .bool b, .int .i64 g, .int .i64 l, .int .i64 f]) ∧ Below w.heap.size w w' := by
  have e1 : (k == 1) = false := by rw [beq_eq_false_iff_ne]; exact n1
  have e2 : (k == 2) = false := by rw [beq_eq_false_iff_ne]; exact n2
  go_enter Try.func60, Try.ntmps60
  go_wp2
  refine bodyPost_ret (by simp [results, Try.results60, go_sem]; try rfl) rfl ⟨rfl, ?_⟩
  go_grown
end Go.Proofs.Ytmjkhefgpobinaa
namespace Go.Proofs.Ytmjkhefgpobinaa
theorem add_and_xor (n : Nat) : ∀ a b : Nat, a < 2 ^ n → b < 2 ^ n → a + b = 2 * (a &&& b) + (a ^^^ b) := by
  induction n with
  | zero =>
    intro a b ha hb
    have h1 : a = 0 := by simpa using ha
    have h2 : b = 0 := by simpa using hb
    subst h1; subst h2; rfl
  | succ n ih =>
    intro a b ha hb
    have h := ih (a / 2) (b / 2) (by rw [Nat.pow_succ] at ha; omega) (by rw [Nat.pow_succ] at hb; omega)
    have e1 : (a &&& b) / 2 = a / 2 &&& b / 2 := Nat.and_div_two
    have e2 : (a ^^^ b) / 2 = a / 2 ^^^ b / 2 := Nat.xor_div_two
    have e3 : (a &&& b) % 2 = (a % 2) &&& (b % 2) := Nat.and_mod_two_pow (n := 1)
    have e4 : (a ^^^ b) % 2 = (a % 2) ^^^ (b % 2) := Nat.xor_mod_two_pow (n := 1)
    have e5 : a % 2 + b % 2 = 2 * ((a % 2) &&& (b % 2)) + ((a % 2) ^^^ (b % 2)) := by
      rcases Nat.mod_two_eq_zero_or_one a with ha2 | ha2 <;> rcases Nat.mod_two_eq_zero_or_one b with hb2 | hb2 <;> rw [ha2, hb2] <;> rfl
    rw [← e3, ← e4] at e5
    rw [← e1, ← e2] at h
    clear e1 e2 e3 e4 ih
    generalize a &&& b = p at *
    generalize a ^^^ b = q at *
    omega
theorem mid_nat (a b : Nat) (ha : a < 16384) (hb : b < 16384) : (a &&& b) + (a ^^^ b) / 2 = (a + b) / 2 := by
  have := add_and_xor 14 a b ha hb
  omega
theorem ofInt_i64 (a : Nat) (ha : a < 9223372036854775808) : (BitVec.ofInt 64 (a : Int)).toNat = a := by
  rw [BitVec.ofInt_natCast, BitVec.toNat_ofNat]; exact Nat.mod_eq_of_lt (by omega)
theorem i64_and_nat (a b : Nat) (ha : a < 9223372036854775808) (hb : b < 9223372036854775808) : bits .and .i64 (a : Int) (b : Int) = ((a &&& b : Nat) : Int) := by
  have hx : a &&& b < 2 ^ 63 := Nat.and_lt_two_pow _ (by omega)
  show IntKind.i64.wrap ((BitVec.ofInt 64 (a : Int) &&& BitVec.ofInt 64 (b : Int)).toNat : Int) = _
  rw [BitVec.toNat_and, ofInt_i64 a ha, ofInt_i64 b hb, IntKind.wrap_i64]
  omega
theorem i64_xor_nat (a b : Nat) (ha : a < 9223372036854775808) (hb : b < 9223372036854775808) : bits .xor .i64 (a : Int) (b : Int) = ((a ^^^ b : Nat) : Int) := by
  have hx : a ^^^ b < 2 ^ 63 := Nat.xor_lt_two_pow (by omega) (by omega)
  show IntKind.i64.wrap ((BitVec.ofInt 64 (a : Int) ^^^ BitVec.ofInt 64 (b : Int)).toNat : Int) = _
  rw [BitVec.toNat_xor, ofInt_i64 a ha, ofInt_i64 b hb, IntKind.wrap_i64]
  omega
theorem mid_int (a b : Int) (ha : 0 ≤ a) (ha1 : a < 16384) (hb : 0 ≤ b) (hb1 : b < 16384) : bits .and .i64 a b + bits .xor .i64 a b / 2 = (a + b) / 2 := by
  obtain ⟨x, rfl⟩ := Int.eq_ofNat_of_zero_le ha
  obtain ⟨y, rfl⟩ := Int.eq_ofNat_of_zero_le hb
  rw [i64_and_nat x y (by omega) (by omega), i64_xor_nat x y (by omega) (by omega)]
  have := mid_nat x y (by omega) (by omega)
  omega
open Go.ChangeShapes Go.WideShapes Go.ChangeAt Go.RowKit
theorem mid23 (a b : Int) (w : World) (ha : 0 ≤ a) (ha1 : a < 16384) (hb : 0 ≤ b) (hb1 : b < 16384) : Calls Try.prog 83 #[.int .i64 a, .int .i64 b] w fun e w' => e = .returned (.int .i64 ((a + b) / 2)) ∧ w = w' := by
  have hm : wrap64 (bits .and .i64 a b + bits .xor .i64 a b / 2) = (a + b) / 2 := by
    rw [mid_int a b ha ha1 hb hb1]
    unfold wrap64
    omega
  have HM := Lib.hid hm
  clear hm
  go_enter Try.func83, Try.ntmps83
  go_wp2
  go_ret
  exact ⟨by rw [← HM.out]; rfl, rfl⟩
end Go.Proofs.Ytmjkhefgpobinaa
namespace Go.Proofs.Ytmjkhefgpobinaa
open Go.ChangeShapes Go.WideShapes Go.ChangeAt Go.RowKit
def MatchPost (w : World) (q p : Int) (e : Ending) (w' : World) : Prop := e = .returned (.agg #[.int .i64 q, .int .i64 p]) ∧ Below w.heap.size w w'
set_option maxHeartbeats 400000 in
theorem match_A1 (an ap al au bn bs bp bl bu left other : Int) (w : World) (h : bs ≠ 0) :
    Calls Try.prog 74 #[.agg #[.int .i64 an, .int .i64 1, .int .i64 ap, .int .i64 al, .int .i64 au], .agg #[.int .i64 bn, .int .i64 bs, .int .i64 bp, .int .i64 bl, .int .i64 bu], .int .i64 left, .int .i64 other] w (MatchPost w 0 0) := by
  have f0 : (bs != 0) = true := by simpa using h
  go_enter Try.func74, Try.ntmps74
  go_wp2_with fail
  go_region
  all_goals (go_wp2_with fail; go_region)
  all_goals go_wp2
  all_goals refine bodyPost_ret (by simp [results, Try.results74, go_sem]; try rfl) rfl ⟨rfl, ?_⟩
  all_goals go_grown
set_option maxHeartbeats 400000 in
theorem match_A2 (an ap al au bn bp bl bu left other : Int) (w : World) (h : bn ≠ an) :
    Calls Try.prog 74 #[.agg #[.int .i64 an, .int .i64 1, .int .i64 ap, .int .i64 al, .int .i64 au], .agg #[.int .i64 bn, .int .i64 0, .int .i64 bp, .int .i64 bl, .int .i64 bu], .int .i64 left, .int .i64 other] w (MatchPost w 0 0) := by
  have f0 : (bn != an) = true := by simpa using h
  go_enter Try.func74, Try.ntmps74
  go_wp2_with fail
  go_region
  all_goals (go_wp2_with fail; go_region)
  all_goals go_wp2
  all_goals refine bodyPost_ret (by simp [results, Try.results74, go_sem]; try rfl) rfl ⟨rfl, ?_⟩
  all_goals go_grown
set_option maxHeartbeats 400000 in
theorem match_A3 (n ap al au bp bl bu left other : Int) (w : World) (h : bp < ap) :
    Calls Try.prog 74 #[.agg #[.int .i64 n, .int .i64 1, .int .i64 ap, .int .i64 al, .int .i64 au], .agg #[.int .i64 n, .int .i64 0, .int .i64 bp, .int .i64 bl, .int .i64 bu], .int .i64 left, .int .i64 other] w (MatchPost w 0 0) := by
  have f0 : (n != n) = false := by simp
  go_enter Try.func74, Try.ntmps74
  go_wp2_with fail
  go_region
  all_goals (go_wp2_with fail; go_region)
  all_goals go_wp2
  all_goals refine bodyPost_ret (by simp [results, Try.results74, go_sem]; try rfl) rfl ⟨rfl, ?_⟩
  all_goals go_grown
set_option maxHeartbeats 400000 in
theorem match_B1 (an as_ ap al au bn bs bp bl bu left other : Int) (w : World) (h : as_ ≠ 0) (h1 : as_ ≠ 1) :
    Calls Try.prog 74 #[.agg #[.int .i64 an, .int .i64 as_, .int .i64 ap, .int .i64 al, .int .i64 au], .agg #[.int .i64 bn, .int .i64 bs, .int .i64 bp, .int .i64 bl, .int .i64 bu], .int .i64 left, .int .i64 other] w (MatchPost w 0 0) := by
  have f0 : (as_ != 0) = true := by simpa using h
  have f1 : (as_ == 1) = false := by simpa using h1
  go_enter Try.func74, Try.ntmps74
  go_wp2_with fail
  go_region
  all_goals go_wp2
  all_goals refine bodyPost_ret (by simp [results, Try.results74, go_sem]; try rfl) rfl ⟨rfl, ?_⟩
  all_goals go_grown
set_option maxHeartbeats 400000 in
theorem match_B2 (an ap al au bn bs bp bl bu left other : Int) (w : World) (h : bs ≠ 1) :
    Calls Try.prog 74 #[.agg #[.int .i64 an, .int .i64 0, .int .i64 ap, .int .i64 al, .int .i64 au], .agg #[.int .i64 bn, .int .i64 bs, .int .i64 bp, .int .i64 bl, .int .i64 bu], .int .i64 left, .int .i64 other] w (MatchPost w 0 0) := by
  have f0 : (bs != 1) = true := by simpa using h
  go_enter Try.func74, Try.ntmps74
  go_wp2_with fail
  go_region
  all_goals go_wp2
  all_goals refine bodyPost_ret (by simp [results, Try.results74, go_sem]; try rfl) rfl ⟨rfl, ?_⟩
  all_goals go_grown
set_option maxHeartbeats 400000 in
theorem match_B3 (an ap al au bn bp bl bu left other : Int) (w : World) (h : an ≠ bn) :
    Calls Try.prog 74 #[.agg #[.int .i64 an, .int .i64 0, .int .i64 ap, .int .i64 al, .int .i64 au], .agg #[.int .i64 bn, .int .i64 1, .int .i64 bp, .int .i64 bl, .int .i64 bu], .int .i64 left, .int .i64 other] w (MatchPost w 0 0) := by
  have f0 : (an != bn) = true := by simpa using h
  go_enter Try.func74, Try.ntmps74
  go_wp2_with fail
  go_region
  all_goals go_wp2
  all_goals refine bodyPost_ret (by simp [results, Try.results74, go_sem]; try rfl) rfl ⟨rfl, ?_⟩
  all_goals go_grown
set_option maxHeartbeats 400000 in
theorem match_B4 (n ap al au bp bl bu left other : Int) (w : World) (h : ap < bp) :
    Calls Try.prog 74 #[.agg #[.int .i64 n, .int .i64 0, .int .i64 ap, .int .i64 al, .int .i64 au], .agg #[.int .i64 n, .int .i64 1, .int .i64 bp, .int .i64 bl, .int .i64 bu], .int .i64 left, .int .i64 other] w (MatchPost w 0 0) := by
  have f0 : (n != n) = false := by simp
  go_enter Try.func74, Try.ntmps74
  go_wp2_with fail
  go_region
  all_goals go_wp2
  all_goals refine bodyPost_ret (by simp [results, Try.results74, go_sem]; try rfl) rfl ⟨rfl, ?_⟩
  all_goals go_grown
set_option maxHeartbeats 400000 in
theorem match_Al0 (n ap al au bp bl bu left other : Int) (w : World) (h : ap ≤ bp) (hm : left ≤ other) (h3 : left < 1) :
    Calls Try.prog 74 #[.agg #[.int .i64 n, .int .i64 1, .int .i64 ap, .int .i64 al, .int .i64 au], .agg #[.int .i64 n, .int .i64 0, .int .i64 bp, .int .i64 bl, .int .i64 bu], .int .i64 left, .int .i64 other] w (MatchPost w 0 0) := by
  have f0 : (n != n) = false := by simp
  go_enter Try.func74, Try.ntmps74
  go_wp2_with fail
  go_region
  all_goals (go_wp2_with fail; go_region)
  all_goals go_wp2
  all_goals refine bodyPost_ret (by simp [results, Try.results74, go_sem]; try rfl) rfl ⟨rfl, ?_⟩
  all_goals go_grown
set_option maxHeartbeats 400000 in
theorem match_Al1 (n ap al au bp bl bu left other : Int) (w : World) (h : ap ≤ bp) (hm : left ≤ other) (h3 : 1 ≤ left) (h4 : left < al) :
    Calls Try.prog 74 #[.agg #[.int .i64 n, .int .i64 1, .int .i64 ap, .int .i64 al, .int .i64 au], .agg #[.int .i64 n, .int .i64 0, .int .i64 bp, .int .i64 bl, .int .i64 bu], .int .i64 left, .int .i64 other] w (MatchPost w 0 0) := by
  have f0 : (n != n) = false := by simp
  go_enter Try.func74, Try.ntmps74
  go_wp2_with fail
  go_region
  all_goals (go_wp2_with fail; go_region)
  all_goals go_wp2
  all_goals refine bodyPost_ret (by simp [results, Try.results74, go_sem]; try rfl) rfl ⟨rfl, ?_⟩
  all_goals go_grown
set_option maxHeartbeats 400000 in
theorem match_Al2 (n ap al au bp bl bu left other : Int) (w : World) (h : ap ≤ bp) (hm : left ≤ other) (h3 : 1 ≤ left) (h4 : al ≤ left) (h5 : left < bl) :
    Calls Try.prog 74 #[.agg #[.int .i64 n, .int .i64 1, .int .i64 ap, .int .i64 al, .int .i64 au], .agg #[.int .i64 n, .int .i64 0, .int .i64 bp, .int .i64 bl, .int .i64 bu], .int .i64 left, .int .i64 other] w (MatchPost w 0 0) := by
  have f0 : (n != n) = false := by simp
  go_enter Try.func74, Try.ntmps74
  go_wp2_with fail
  go_region
  all_goals (go_wp2_with fail; go_region)
  all_goals go_wp2
  all_goals refine bodyPost_ret (by simp [results, Try.results74, go_sem]; try rfl) rfl ⟨rfl, ?_⟩
  all_goals go_grown
set_option maxHeartbeats 400000 in
theorem match_Al3 (n ap al au bp bl bu left other : Int) (w : World) (h : ap ≤ bp) (hm : left ≤ other) (h3 : 1 ≤ left) (h4 : al ≤ left) (h5 : bl ≤ left) (g1 : 1 ≤ ap) (g2 : ap ≤ 9999) (g3 : 1 ≤ bp) (g4 : bp ≤ 9999) :
    Calls Try.prog 74 #[.agg #[.int .i64 n, .int .i64 1, .int .i64 ap, .int .i64 al, .int .i64 au], .agg #[.int .i64 n, .int .i64 0, .int .i64 bp, .int .i64 bl, .int .i64 bu], .int .i64 left, .int .i64 other] w (MatchPost w left ((bp + ap) / 2)) := by
  have f0 : (n != n) = false := by simp
  go_enter Try.func74, Try.ntmps74
  go_wp2_with fail
  go_region
  all_goals (go_wp2_with fail; go_region)
  all_goals (go_wp2_with (go_at_call 83; refine (mid23 _ _ _ (by omega) (by omega) (by omega) (by omega)).mono ?_; rintro e w' ⟨rfl, rfl⟩))
  all_goals refine bodyPost_ret (by simp [results, Try.results74, go_sem]; try rfl) rfl ⟨rfl, ?_⟩
  all_goals go_grown
set_option maxHeartbeats 400000 in
theorem match_Ao0 (n ap al au bp bl bu left other : Int) (w : World) (h : ap ≤ bp) (hm : other < left) (h3 : other < 1) :
    Calls Try.prog 74 #[.agg #[.int .i64 n, .int .i64 1, .int .i64 ap, .int .i64 al, .int .i64 au], .agg #[.int .i64 n, .int .i64 0, .int .i64 bp, .int .i64 bl, .int .i64 bu], .int .i64 left, .int .i64 other] w (MatchPost w 0 0) := by
  have f0 : (n != n) = false := by simp
  go_enter Try.func74, Try.ntmps74
  go_wp2_with fail
  go_region
  all_goals (go_wp2_with fail; go_region)
  all_goals go_wp2
  all_goals refine bodyPost_ret (by simp [results, Try.results74, go_sem]; try rfl) rfl ⟨rfl, ?_⟩
  all_goals go_grown
set_option maxHeartbeats 400000 in
theorem match_Ao1 (n ap al au bp bl bu left other : Int) (w : World) (h : ap ≤ bp) (hm : other < left) (h3 : 1 ≤ other) (h4 : other < al) :
    Calls Try.prog 74 #[.agg #[.int .i64 n, .int .i64 1, .int .i64 ap, .int .i64 al, .int .i64 au], .agg #[.int .i64 n, .int .i64 0, .int .i64 bp, .int .i64 bl, .int .i64 bu], .int .i64 left, .int .i64 other] w (MatchPost w 0 0) := by
  have f0 : (n != n) = false := by simp
  go_enter Try.func74, Try.ntmps74
  go_wp2_with fail
  go_region
  all_goals (go_wp2_with fail; go_region)
  all_goals go_wp2
  all_goals refine bodyPost_ret (by simp [results, Try.results74, go_sem]; try rfl) rfl ⟨rfl, ?_⟩
  all_goals go_grown
set_option maxHeartbeats 400000 in
theorem match_Ao2 (n ap al au bp bl bu left other : Int) (w : World) (h : ap ≤ bp) (hm : other < left) (h3 : 1 ≤ other) (h4 : al ≤ other) (h5 : other < bl) :
    Calls Try.prog 74 #[.agg #[.int .i64 n, .int .i64 1, .int .i64 ap, .int .i64 al, .int .i64 au], .agg #[.int .i64 n, .int .i64 0, .int .i64 bp, .int .i64 bl, .int .i64 bu], .int .i64 left, .int .i64 other] w (MatchPost w 0 0) := by
  have f0 : (n != n) = false := by simp
  go_enter Try.func74, Try.ntmps74
  go_wp2_with fail
  go_region
  all_goals (go_wp2_with fail; go_region)
  all_goals go_wp2
  all_goals refine bodyPost_ret (by simp [results, Try.results74, go_sem]; try rfl) rfl ⟨rfl, ?_⟩
  all_goals go_grown
set_option maxHeartbeats 400000 in
theorem match_Ao3 (n ap al au bp bl bu left other : Int) (w : World) (h : ap ≤ bp) (hm : other < left) (h3 : 1 ≤ other) (h4 : al ≤ other) (h5 : bl ≤ other) (g1 : 1 ≤ ap) (g2 : ap ≤ 9999) (g3 : 1 ≤ bp) (g4 : bp ≤ 9999) :
    Calls Try.prog 74 #[.agg #[.int .i64 n, .int .i64 1, .int .i64 ap, .int .i64 al, .int .i64 au], .agg #[.int .i64 n, .int .i64 0, .int .i64 bp, .int .i64 bl, .int .i64 bu], .int .i64 left, .int .i64 other] w (MatchPost w other ((bp + ap) / 2)) := by
  have f0 : (n != n) = false := by simp
  go_enter Try.func74, Try.ntmps74
  go_wp2_with fail
  go_region
  all_goals (go_wp2_with fail; go_region)
  all_goals (go_wp2_with (go_at_call 83; refine (mid23 _ _ _ (by omega) (by omega) (by omega) (by omega)).mono ?_; rintro e w' ⟨rfl, rfl⟩))
  all_goals refine bodyPost_ret (by simp [results, Try.results74, go_sem]; try rfl) rfl ⟨rfl, ?_⟩
  all_goals go_grown
set_option maxHeartbeats 400000 in
theorem match_Bl0 (n ap al au bp bl bu left other : Int) (w : World) (h : bp ≤ ap) (hm : left ≤ other) (h3 : left < 1) :
    Calls Try.prog 74 #[.agg #[.int .i64 n, .int .i64 0, .int .i64 ap, .int .i64 al, .int .i64 au], .agg #[.int .i64 n, .int .i64 1, .int .i64 bp, .int .i64 bl, .int .i64 bu], .int .i64 left, .int .i64 other] w (MatchPost w 0 0) := by
  have f0 : (n != n) = false := by simp
  go_enter Try.func74, Try.ntmps74
  go_wp2_with fail
  go_region
  all_goals go_wp2
  all_goals refine bodyPost_ret (by simp [results, Try.results74, go_sem]; try rfl) rfl ⟨rfl, ?_⟩
  all_goals go_grown
set_option maxHeartbeats 400000 in
theorem match_Bl1 (n ap al au bp bl bu left other : Int) (w : World) (h : bp ≤ ap) (hm : left ≤ other) (h3 : 1 ≤ left) (h4 : left < al) :
    Calls Try.prog 74 #[.agg #[.int .i64 n, .int .i64 0, .int .i64 ap, .int .i64 al, .int .i64 au], .agg #[.int .i64 n, .int .i64 1, .int .i64 bp, .int .i64 bl, .int .i64 bu], .int .i64 left, .int .i64 other] w (MatchPost w 0 0) := by
  have f0 : (n != n) = false := by simp
  go_enter Try.func74, Try.ntmps74
  go_wp2_with fail
  go_region
  all_goals go_wp2
  all_goals refine bodyPost_ret (by simp [results, Try.results74, go_sem]; try rfl) rfl ⟨rfl, ?_⟩
  all_goals go_grown
set_option maxHeartbeats 400000 in
theorem match_Bl2 (n ap al au bp bl bu left other : Int) (w : World) (h : bp ≤ ap) (hm : left ≤ other) (h3 : 1 ≤ left) (h4 : al ≤ left) (h5 : left < bl) :
    Calls Try.prog 74 #[.agg #[.int .i64 n, .int .i64 0, .int .i64 ap, .int .i64 al, .int .i64 au], .agg #[.int .i64 n, .int .i64 1, .int .i64 bp, .int .i64 bl, .int .i64 bu], .int .i64 left, .int .i64 other] w (MatchPost w 0 0) := by
  have f0 : (n != n) = false := by simp
  go_enter Try.func74, Try.ntmps74
  go_wp2_with fail
  go_region
  all_goals go_wp2
  all_goals refine bodyPost_ret (by simp [results, Try.results74, go_sem]; try rfl) rfl ⟨rfl, ?_⟩
  all_goals go_grown
set_option maxHeartbeats 400000 in
theorem match_Bl3 (n ap al au bp bl bu left other : Int) (w : World) (h : bp ≤ ap) (hm : left ≤ other) (h3 : 1 ≤ left) (h4 : al ≤ left) (h5 : bl ≤ left) (g1 : 1 ≤ ap) (g2 : ap ≤ 9999) (g3 : 1 ≤ bp) (g4 : bp ≤ 9999) :
    Calls Try.prog 74 #[.agg #[.int .i64 n, .int .i64 0, .int .i64 ap, .int .i64 al, .int .i64 au], .agg #[.int .i64 n, .int .i64 1, .int .i64 bp, .int .i64 bl, .int .i64 bu], .int .i64 left, .int .i64 other] w (MatchPost w left ((ap + bp) / 2)) := by
  have f0 : (n != n) = false := by simp
  go_enter Try.func74, Try.ntmps74
  go_wp2_with fail
  go_region
  all_goals (go_wp2_with (go_at_call 83; refine (mid23 _ _ _ (by omega) (by omega) (by omega) (by omega)).mono ?_; rintro e w' ⟨rfl, rfl⟩))
  all_goals refine bodyPost_ret (by simp [results, Try.results74, go_sem]; try rfl) rfl ⟨rfl, ?_⟩
  all_goals go_grown
set_option maxHeartbeats 400000 in
theorem match_Bo0 (n ap al au bp bl bu left other : Int) (w : World) (h : bp ≤ ap) (hm : other < left) (h3 : other < 1) :
    Calls Try.prog 74 #[.agg #[.int .i64 n, .int .i64 0, .int .i64 ap, .int .i64 al, .int .i64 au], .agg #[.int .i64 n, .int .i64 1, .int .i64 bp, .int .i64 bl, .int .i64 bu], .int .i64 left, .int .i64 other] w (MatchPost w 0 0) := by
  have f0 : (n != n) = false := by simp
  go_enter Try.func74, Try.ntmps74
  go_wp2_with fail
  go_region
  all_goals go_wp2
  all_goals refine bodyPost_ret (by simp [results, Try.results74, go_sem]; try rfl) rfl ⟨rfl, ?_⟩
  all_goals go_grown
set_option maxHeartbeats 400000 in
theorem match_Bo1 (n ap al au bp bl bu left other : Int) (w : World) (h : bp ≤ ap) (hm : other < left) (h3 : 1 ≤ other) (h4 : other < al) :
    Calls Try.prog 74 #[.agg #[.int .i64 n, .int .i64 0, .int .i64 ap, .int .i64 al, .int .i64 au], .agg #[.int .i64 n, .int .i64 1, .int .i64 bp, .int .i64 bl, .int .i64 bu], .int .i64 left, .int .i64 other] w (MatchPost w 0 0) := by
  have f0 : (n != n) = false := by simp
  go_enter Try.func74, Try.ntmps74
  go_wp2_with fail
  go_region
  all_goals go_wp2
  all_goals refine bodyPost_ret (by simp [results, Try.results74, go_sem]; try rfl) rfl ⟨rfl, ?_⟩
  all_goals go_grown
set_option maxHeartbeats 400000 in
theorem match_Bo2 (n ap al au bp bl bu left other : Int) (w : World) (h : bp ≤ ap) (hm : other < left) (h3 : 1 ≤ other) (h4 : al ≤ other) (h5 : other < bl) :
    Calls Try.prog 74 #[.agg #[.int .i64 n, .int .i64 0, .int .i64 ap, .int .i64 al, .int .i64 au], .agg #[.int .i64 n, .int .i64 1, .int .i64 bp, .int .i64 bl, .int .i64 bu], .int .i64 left, .int .i64 other] w (MatchPost w 0 0) := by
  have f0 : (n != n) = false := by simp
  go_enter Try.func74, Try.ntmps74
  go_wp2_with fail
  go_region
  all_goals go_wp2
  all_goals refine bodyPost_ret (by simp [results, Try.results74, go_sem]; try rfl) rfl ⟨rfl, ?_⟩
  all_goals go_grown
set_option maxHeartbeats 400000 in
theorem match_Bo3 (n ap al au bp bl bu left other : Int) (w : World) (h : bp ≤ ap) (hm : other < left) (h3 : 1 ≤ other) (h4 : al ≤ other) (h5 : bl ≤ other) (g1 : 1 ≤ ap) (g2 : ap ≤ 9999) (g3 : 1 ≤ bp) (g4 : bp ≤ 9999) :
    Calls Try.prog 74 #[.agg #[.int .i64 n, .int .i64 0, .int .i64 ap, .int .i64 al, .int .i64 au], .agg #[.int .i64 n, .int .i64 1, .int .i64 bp, .int .i64 bl, .int .i64 bu], .int .i64 left, .int .i64 other] w (MatchPost w other ((ap + bp) / 2)) := by
  have f0 : (n != n) = false := by simp
  go_enter Try.func74, Try.ntmps74
  go_wp2_with fail
  go_region
  all_goals (go_wp2_with (go_at_call 83; refine (mid23 _ _ _ (by omega) (by omega) (by omega) (by omega)).mono ?_; rintro e w' ⟨rfl, rfl⟩))
  all_goals refine bodyPost_ret (by simp [results, Try.results74, go_sem]; try rfl) rfl ⟨rfl, ?_⟩
  all_goals go_grown
theorem match_any (an as_ ap al au bn bs bp bl bu left other : Int) (h1 : 1 ≤ ap ∧ ap ≤ 9999) (h2 : 1 ≤ bp ∧ bp ≤ 9999) : ∃ q p : Int, (∀ w, Calls Try.prog 74 #[.agg #[.int .i64 an, .int .i64 as_, .int .i64 ap, .int .i64 al, .int .i64 au], .agg #[.int .i64 bn, .int .i64 bs, .int .i64 bp, .int .i64 bl, .int .i64 bu], .int .i64 left, .int .i64 other] w (MatchPost w q p)) ∧ ((q = 0 ∧ p = 0) ∨ (1 ≤ q ∧ q ≤ left ∧ q ≤ other)) := by
  by_cases ha : as_ = 1
  · subst ha
    by_cases hb : bs = 0
    · subst hb
      by_cases hn : bn = an
      · subst hn
        by_cases hp : bp < ap
        · exact ⟨0, 0, fun w => match_A3 bn ap al au bp bl bu left other w hp, .inl ⟨rfl, rfl⟩⟩
        · have hp : ap ≤ bp := by omega
          by_cases hm : left ≤ other
          · by_cases h3 : left < 1
            · exact ⟨0, 0, fun w => match_Al0 bn ap al au bp bl bu left other w hp hm h3, .inl ⟨rfl, rfl⟩⟩
            · by_cases h4 : left < al
              · exact ⟨0, 0, fun w => match_Al1 bn ap al au bp bl bu left other w hp hm (by omega) h4, .inl ⟨rfl, rfl⟩⟩
              · by_cases h5 : left < bl
                · exact ⟨0, 0, fun w => match_Al2 bn ap al au bp bl bu left other w hp hm (by omega) (by omega) h5, .inl ⟨rfl, rfl⟩⟩
                · exact ⟨_, _, fun w => match_Al3 bn ap al au bp bl bu left other w hp hm (by omega) (by omega) (by omega) h1.1 h1.2 h2.1 h2.2, .inr ⟨by omega, by omega, by omega⟩⟩
          · by_cases h3 : other < 1
            · exact ⟨0, 0, fun w => match_Ao0 bn ap al au bp bl bu left other w hp (by omega) h3, .inl ⟨rfl, rfl⟩⟩
            · by_cases h4 : other < al
              · exact ⟨0, 0, fun w => match_Ao1 bn ap al au bp bl bu left other w hp (by omega) (by omega) h4, .inl ⟨rfl, rfl⟩⟩
              · by_cases h5 : other < bl
                · exact ⟨0, 0, fun w => match_Ao2 bn ap al au bp bl bu left other w hp (by omega) (by omega) (by omega) h5, .inl ⟨rfl, rfl⟩⟩
                · exact ⟨_, _, fun w => match_Ao3 bn ap al au bp bl bu left other w hp (by omega) (by omega) (by omega) (by omega) h1.1 h1.2 h2.1 h2.2, .inr ⟨by omega, by omega, by omega⟩⟩
      · exact ⟨0, 0, fun w => match_A2 an ap al au bn bp bl bu left other w hn, .inl ⟨rfl, rfl⟩⟩
    · exact ⟨0, 0, fun w => match_A1 an ap al au bn bs bp bl bu left other w hb, .inl ⟨rfl, rfl⟩⟩
  · by_cases h0 : as_ = 0
    · subst h0
      by_cases hb : bs = 1
      · subst hb
        by_cases hn : an = bn
        · subst hn
          by_cases hp : ap < bp
          · exact ⟨0, 0, fun w => match_B4 an ap al au bp bl bu left other w hp, .inl ⟨rfl, rfl⟩⟩
          · have hp : bp ≤ ap := by omega
            by_cases hm : left ≤ other
            · by_cases h3 : left < 1
              · exact ⟨0, 0, fun w => match_Bl0 an ap al au bp bl bu left other w hp hm h3, .inl ⟨rfl, rfl⟩⟩
              · by_cases h4 : left < al
                · exact ⟨0, 0, fun w => match_Bl1 an ap al au bp bl bu left other w hp hm (by omega) h4, .inl ⟨rfl, rfl⟩⟩
                · by_cases h5 : left < bl
                  · exact ⟨0, 0, fun w => match_Bl2 an ap al au bp bl bu left other w hp hm (by omega) (by omega) h5, .inl ⟨rfl, rfl⟩⟩
                  · exact ⟨_, _, fun w => match_Bl3 an ap al au bp bl bu left other w hp hm (by omega) (by omega) (by omega) h1.1 h1.2 h2.1 h2.2, .inr ⟨by omega, by omega, by omega⟩⟩
            · by_cases h3 : other < 1
              · exact ⟨0, 0, fun w => match_Bo0 an ap al au bp bl bu left other w hp (by omega) h3, .inl ⟨rfl, rfl⟩⟩
              · by_cases h4 : other < al
                · exact ⟨0, 0, fun w => match_Bo1 an ap al au bp bl bu left other w hp (by omega) (by omega) h4, .inl ⟨rfl, rfl⟩⟩
                · by_cases h5 : other < bl
                  · exact ⟨0, 0, fun w => match_Bo2 an ap al au bp bl bu left other w hp (by omega) (by omega) (by omega) h5, .inl ⟨rfl, rfl⟩⟩
                  · exact ⟨_, _, fun w => match_Bo3 an ap al au bp bl bu left other w hp (by omega) (by omega) (by omega) (by omega) h1.1 h1.2 h2.1 h2.2, .inr ⟨by omega, by omega, by omega⟩⟩
        · exact ⟨0, 0, fun w => match_B3 an ap al au bn bp bl bu left other w hn, .inl ⟨rfl, rfl⟩⟩
      · exact ⟨0, 0, fun w => match_B2 an ap al au bn bs bp bl bu left other w hb, .inl ⟨rfl, rfl⟩⟩
    · exact ⟨0, 0, fun w => match_B1 an as_ ap al au bn bs bp bl bu left other w h0 ha, .inl ⟨rfl, rfl⟩⟩
end Go.Proofs.Ytmjkhefgpobinaa

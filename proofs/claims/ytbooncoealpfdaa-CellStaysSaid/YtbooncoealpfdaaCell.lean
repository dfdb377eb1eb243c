/-
  Contracts of cell (Loose, Held, Live, Over, Hold, Take, Release, Cancel, Expire, Promote).
-/
import Derived.Test.YtbooncoealpfdaaRows
import Derived.WalkKit
import Derived.ProofKit
import Derived.OpenShut
import Derived.ShutString
import Derived.Below
import Derived.Outline
import Derived.WalkLawsBesides
import Derived.WalkSpells
import Derived.Handy
import Derived.Deep.QuietTactic
import Derived.BigQuiet
import Derived.RegionTactic
import Derived.ChangeAlike
import Derived.Lib.Hide
import Derived.Test.YtbooncoealpfdaaKit
namespace Go.Proofs.Ytbooncoealpfdaa
open Go.ChangeShapes Go.WideShapes Go.ChangeAt Go.RowKit
theorem over_yes (k g l f : Int) (b : Bool) (w : World) (h1 : 5 ≤ k) (h2 : k ≤ 8) : Calls Try.prog 26 #[.agg #[.int .i64 k, .bool b, .int .i64 g, .int .i64 l, .int .i64 f]] w fun e w' => e = .returned (.bool true) ∧ Below w.heap.size w w' := by
  go_enter Try.func26, Try.ntmps26
  go_wp2
  go_ret
  exact ⟨rfl, by go_grown⟩
theorem over_low (k g l f : Int) (b : Bool) (w : World) (h1 : k < 5) : Calls Try.prog 26 #[.agg #[.int .i64 k, .bool b, .int .i64 g, .int .i64 l, .int .i64 f]] w fun e w' => e = .returned (.bool false) ∧ Below w.heap.size w w' := by
  go_enter Try.func26, Try.ntmps26
  go_wp2
  go_ret
  exact ⟨rfl, by go_grown⟩
theorem over_high (k g l f : Int) (b : Bool) (w : World) (h1 : 8 < k) : Calls Try.prog 26 #[.agg #[.int .i64 k, .bool b, .int .i64 g, .int .i64 l, .int .i64 f]] w fun e w' => e = .returned (.bool false) ∧ Below w.heap.size w w' := by
  have hd : decide (k ≤ 8) = false := decide_eq_false (by omega)
  go_enter Try.func26, Try.ntmps26
  go_wp2
  go_ret
  exact ⟨rfl, by go_grown⟩
theorem loose_1 (g l f : Int) (b : Bool) (w : World) : Calls Try.prog 36 #[.agg #[.int .i64 1, .bool b, .int .i64 g, .int .i64 l, .int .i64 f]] w fun e w' => e = .returned (.bool true) ∧ Below w.heap.size w w' := by
  go_enter Try.func36, Try.ntmps36
  go_wp2
  go_ret
  exact ⟨rfl, by go_grown⟩
theorem loose_2 (g l f : Int) (b : Bool) (w : World) : Calls Try.prog 36 #[.agg #[.int .i64 2, .bool b, .int .i64 g, .int .i64 l, .int .i64 f]] w fun e w' => e = .returned (.bool true) ∧ Below w.heap.size w w' := by
  go_enter Try.func36, Try.ntmps36
  go_wp2
  go_ret
  exact ⟨rfl, by go_grown⟩
theorem loose_no (k g l f : Int) (b : Bool) (w : World) (h1 : k ≠ 1) (h2 : k ≠ 2) : Calls Try.prog 36 #[.agg #[.int .i64 k, .bool b, .int .i64 g, .int .i64 l, .int .i64 f]] w fun e w' => e = .returned (.bool false) ∧ Below w.heap.size w w' := by
  have e1 : (k == 1) = false := by rw [beq_eq_false_iff_ne]; exact h1
  have e2 : (k == 2) = false := by rw [beq_eq_false_iff_ne]; exact h2
  go_enter Try.func36, Try.ntmps36
  go_wp2
  go_ret
  exact ⟨rfl, by go_grown⟩
theorem held_3 (g l f : Int) (b : Bool) (w : World) : Calls Try.prog 35 #[.agg #[.int .i64 3, .bool b, .int .i64 g, .int .i64 l, .int .i64 f]] w fun e w' => e = .returned (.bool true) ∧ Below w.heap.size w w' := by
  go_enter Try.func35, Try.ntmps35
  go_wp2
  go_ret
  exact ⟨rfl, by go_grown⟩
theorem held_4 (g l f : Int) (b : Bool) (w : World) : Calls Try.prog 35 #[.agg #[.int .i64 4, .bool b, .int .i64 g, .int .i64 l, .int .i64 f]] w fun e w' => e = .returned (.bool true) ∧ Below w.heap.size w w' := by
  go_enter Try.func35, Try.ntmps35
  go_wp2
  go_ret
  exact ⟨rfl, by go_grown⟩
theorem held_no (k g l f : Int) (b : Bool) (w : World) (h3 : k ≠ 3) (h4 : k ≠ 4) : Calls Try.prog 35 #[.agg #[.int .i64 k, .bool b, .int .i64 g, .int .i64 l, .int .i64 f]] w fun e w' => e = .returned (.bool false) ∧ Below w.heap.size w w' := by
  have e3 : (k == 3) = false := by rw [beq_eq_false_iff_ne]; exact h3
  have e4 : (k == 4) = false := by rw [beq_eq_false_iff_ne]; exact h4
  go_enter Try.func35, Try.ntmps35
  go_wp2
  go_ret
  exact ⟨rfl, by go_grown⟩
theorem live_no (k g l f : Int) (b : Bool) (w : World) (h1 : k ≠ 1) (h2 : k ≠ 2) (h3 : k ≠ 3) (h4 : k ≠ 4) : Calls Try.prog 34 #[.agg #[.int .i64 k, .bool b, .int .i64 g, .int .i64 l, .int .i64 f]] w fun e w' => e = .returned (.bool false) ∧ Below w.heap.size w w' := by
  have e1 : (k == 1) = false := by rw [beq_eq_false_iff_ne]; exact h1
  have e2 : (k == 2) = false := by rw [beq_eq_false_iff_ne]; exact h2
  have e3 : (k == 3) = false := by rw [beq_eq_false_iff_ne]; exact h3
  have e4 : (k == 4) = false := by rw [beq_eq_false_iff_ne]; exact h4
  go_enter Try.func34, Try.ntmps34
  go_wp2
  go_ret
  exact ⟨rfl, by go_grown⟩

/-- A state, and no error. -/
def Got (w : World) (k g l f : Int) (b : Bool) (e : Ending) (w' : World) : Prop := e = .returned (.tuple #[.agg #[.int .i64 k, .bool b, .int .i64 g, .int .i64 l, .int .i64 f], .nilIface]) ∧ Below w.heap.size w w'
/-- No state, and an error. -/
def Bad (w : World) (c : Int) (e : Ending) (w' : World) : Prop := e = .returned (.tuple #[.agg #[.int .i64 0, .bool false, .int .i64 0, .int .i64 0, .int .i64 0], .iface 80 (.int .i64 c)]) ∧ Below w.heap.size w w'
/-- A state. -/
def St (w : World) (k g l f : Int) (b : Bool) (e : Ending) (w' : World) : Prop := e = .returned (.agg #[.int .i64 k, .bool b, .int .i64 g, .int .i64 l, .int .i64 f]) ∧ Below w.heap.size w w'
set_option maxHeartbeats 1000000 in
theorem hold_same (k g l f : Int) (b : Bool) (w : World) (h1 : k ≠ 1) (h2 : k ≠ 2) : Calls Try.prog 33 #[.agg #[.int .i64 k, .bool b, .int .i64 g, .int .i64 l, .int .i64 f]] w (St w k g l f b) := by
  have e1 : (k == 1) = false := by rw [beq_eq_false_iff_ne]; exact h1
  have e2 : (k == 2) = false := by rw [beq_eq_false_iff_ne]; exact h2
  go_enter Try.func33, Try.ntmps33
  go_wp2
  refine bodyPost_ret (by simp [results, Try.results33, go_sem]; try rfl) rfl ⟨rfl, ?_⟩
  go_grown
set_option maxHeartbeats 1000000 in
theorem hold_1 (g l f : Int) (b : Bool) (w : World)  : Calls Try.prog 33 #[.agg #[.int .i64 1, .bool b, .int .i64 g, .int .i64 l, .int .i64 f]] w (St w 3 g l f b) := by
  go_enter Try.func33, Try.ntmps33
  go_wp2
  refine bodyPost_ret (by simp [results, Try.results33, go_sem]; try rfl) rfl ⟨rfl, ?_⟩
  go_grown
set_option maxHeartbeats 1000000 in
theorem hold_2 (g l f : Int) (b : Bool) (w : World)  : Calls Try.prog 33 #[.agg #[.int .i64 2, .bool b, .int .i64 g, .int .i64 l, .int .i64 f]] w (St w 4 g l f b) := by
  go_enter Try.func33, Try.ntmps33
  go_wp2
  refine bodyPost_ret (by simp [results, Try.results33, go_sem]; try rfl) rfl ⟨rfl, ?_⟩
  go_grown
set_option maxHeartbeats 1000000 in
theorem take_busy (k g l f q m : Int) (b : Bool) (w : World) (h1 : k ≠ 1) (h2 : k ≠ 2) : Calls Try.prog 27 #[.agg #[.int .i64 k, .bool b, .int .i64 g, .int .i64 l, .int .i64 f], .int .i64 q, .int .i64 m] w (Bad w 27) := by
  have e1 : (k == 1) = false := by rw [beq_eq_false_iff_ne]; exact h1
  have e2 : (k == 2) = false := by rw [beq_eq_false_iff_ne]; exact h2
  go_enter Try.func27, Try.ntmps27
  go_wp2
  refine bodyPost_ret (by simp [results, Try.results27, go_sem]; try rfl) rfl ⟨rfl, ?_⟩
  go_grown
set_option maxHeartbeats 1000000 in
theorem release_arg (k g l f q m : Int) (b : Bool) (w : World) (h3 : k ≠ 3) (h4 : k ≠ 4) : Calls Try.prog 28 #[.agg #[.int .i64 k, .bool b, .int .i64 g, .int .i64 l, .int .i64 f], .int .i64 q, .int .i64 m] w (Bad w 1) := by
  have e3 : (k == 3) = false := by rw [beq_eq_false_iff_ne]; exact h3
  have e4 : (k == 4) = false := by rw [beq_eq_false_iff_ne]; exact h4
  go_enter Try.func28, Try.ntmps28
  go_wp2
  refine bodyPost_ret (by simp [results, Try.results28, go_sem]; try rfl) rfl ⟨rfl, ?_⟩
  go_grown
set_option maxHeartbeats 1000000 in
theorem cancel_gone (k g l f : Int) (b : Bool) (w : World) (h1 : k ≠ 1) (h2 : k ≠ 2) (h3 : k ≠ 3) (h4 : k ≠ 4) : Calls Try.prog 29 #[.agg #[.int .i64 k, .bool b, .int .i64 g, .int .i64 l, .int .i64 f]] w (Bad w 29) := by
  have e1 : (k == 1) = false := by rw [beq_eq_false_iff_ne]; exact h1
  have e2 : (k == 2) = false := by rw [beq_eq_false_iff_ne]; exact h2
  have e3 : (k == 3) = false := by rw [beq_eq_false_iff_ne]; exact h3
  have e4 : (k == 4) = false := by rw [beq_eq_false_iff_ne]; exact h4
  go_enter Try.func29, Try.ntmps29
  go_wp2
  refine bodyPost_ret (by simp [results, Try.results29, go_sem]; try rfl) rfl ⟨rfl, ?_⟩
  go_grown
set_option maxHeartbeats 1000000 in
theorem expire_busy (k g l f : Int) (b : Bool) (w : World) (h1 : k ≠ 1) (h2 : k ≠ 2) : Calls Try.prog 30 #[.agg #[.int .i64 k, .bool b, .int .i64 g, .int .i64 l, .int .i64 f]] w (Bad w 27) := by
  have e1 : (k == 1) = false := by rw [beq_eq_false_iff_ne]; exact h1
  have e2 : (k == 2) = false := by rw [beq_eq_false_iff_ne]; exact h2
  go_enter Try.func30, Try.ntmps30
  go_wp2
  refine bodyPost_ret (by simp [results, Try.results30, go_sem]; try rfl) rfl ⟨rfl, ?_⟩
  go_grown
set_option maxHeartbeats 1000000 in
theorem promote_gone (k g l f : Int) (b : Bool) (w : World) (h1 : k ≠ 1) : Calls Try.prog 31 #[.agg #[.int .i64 k, .bool b, .int .i64 g, .int .i64 l, .int .i64 f]] w (Bad w 29) := by
  have e1 : (k != 1) = true := by rw [bne_iff_ne]; exact h1
  go_enter Try.func31, Try.ntmps31
  go_wp2
  refine bodyPost_ret (by simp [results, Try.results31, go_sem]; try rfl) rfl ⟨rfl, ?_⟩
  go_grown
set_option maxHeartbeats 1000000 in
theorem take_qty_low_1 (g l f q m : Int) (b : Bool) (w : World) (h : q < 1) : Calls Try.prog 27 #[.agg #[.int .i64 1, .bool b, .int .i64 g, .int .i64 l, .int .i64 f], .int .i64 q, .int .i64 m] w (Bad w 23) := by
  go_enter Try.func27, Try.ntmps27
  go_wp2
  refine bodyPost_ret (by simp [results, Try.results27, go_sem]; try rfl) rfl ⟨rfl, ?_⟩
  go_grown
set_option maxHeartbeats 1000000 in
theorem take_qty_high_1 (g l f q m : Int) (b : Bool) (w : World) (h : 1 ≤ q) (h1 : l < q) : Calls Try.prog 27 #[.agg #[.int .i64 1, .bool b, .int .i64 g, .int .i64 l, .int .i64 f], .int .i64 q, .int .i64 m] w (Bad w 23) := by
  go_enter Try.func27, Try.ntmps27
  go_wp2
  refine bodyPost_ret (by simp [results, Try.results27, go_sem]; try rfl) rfl ⟨rfl, ?_⟩
  go_grown
set_option maxHeartbeats 1000000 in
theorem take_limit_1 (g l f q m : Int) (b : Bool) (w : World) (h : 1 ≤ q) (h1 : q ≤ l) (h2 : m ≤ f) : Calls Try.prog 27 #[.agg #[.int .i64 1, .bool b, .int .i64 g, .int .i64 l, .int .i64 f], .int .i64 q, .int .i64 m] w (Bad w 4) := by
  go_enter Try.func27, Try.ntmps27
  go_wp2
  refine bodyPost_ret (by simp [results, Try.results27, go_sem]; try rfl) rfl ⟨rfl, ?_⟩
  go_grown
set_option maxHeartbeats 1000000 in
theorem take_full_1 (g l f q m : Int) (b : Bool) (w : World) (h : 1 ≤ q) (h1 : q ≤ l) (h2 : f < m) (h5 : l ≤ 9223372036854775807) (h6 : m ≤ 9223372036854775807) (h7 : -9223372036854775808 ≤ f) (h3 : l - q = 0) : Calls Try.prog 27 #[.agg #[.int .i64 1, .bool b, .int .i64 g, .int .i64 l, .int .i64 f], .int .i64 q, .int .i64 m] w (Got w 5 g (l - q) (f + 1) false) := by
  have e0 : (l - q == 0) = true := by rw [beq_iff_eq]; exact h3
  have H3 := Lib.hid h3
  clear h3
  go_enter Try.func27, Try.ntmps27
  go_wp2
  refine bodyPost_ret (by simp [results, Try.results27, go_sem]; try rfl) rfl ⟨rfl, ?_⟩
  go_grown
set_option maxHeartbeats 1000000 in
theorem take_retire_1 (g l f q m : Int) (b : Bool) (w : World) (h : 1 ≤ q) (h1 : q ≤ l) (h2 : f < m) (h5 : l ≤ 9223372036854775807) (h6 : m ≤ 9223372036854775807) (h7 : -9223372036854775808 ≤ f) (h3 : l - q ≠ 0) (h4 : m ≤ f + 1) : Calls Try.prog 27 #[.agg #[.int .i64 1, .bool b, .int .i64 g, .int .i64 l, .int .i64 f], .int .i64 q, .int .i64 m] w (Got w 8 g (l - q) (f + 1) false) := by
  have e0 : (l - q == 0) = false := by rw [beq_eq_false_iff_ne]; exact h3
  go_enter Try.func27, Try.ntmps27
  go_wp2
  refine bodyPost_ret (by simp [results, Try.results27, go_sem]; try rfl) rfl ⟨rfl, ?_⟩
  go_grown
set_option maxHeartbeats 1000000 in
theorem take_on_1 (g l f q m : Int) (b : Bool) (w : World) (h : 1 ≤ q) (h1 : q ≤ l) (h2 : f < m) (h5 : l ≤ 9223372036854775807) (h6 : m ≤ 9223372036854775807) (h7 : -9223372036854775808 ≤ f) (h3 : l - q ≠ 0) (h4 : f + 1 < m) : Calls Try.prog 27 #[.agg #[.int .i64 1, .bool b, .int .i64 g, .int .i64 l, .int .i64 f], .int .i64 q, .int .i64 m] w (Got w 1 g (l - q) (f + 1) b) := by
  have e0 : (l - q == 0) = false := by rw [beq_eq_false_iff_ne]; exact h3
  go_enter Try.func27, Try.ntmps27
  go_wp2
  refine bodyPost_ret (by simp [results, Try.results27, go_sem]; try rfl) rfl ⟨rfl, ?_⟩
  go_grown
set_option maxHeartbeats 1000000 in
theorem take_qty_low_2 (g l f q m : Int) (b : Bool) (w : World) (h : q < 1) : Calls Try.prog 27 #[.agg #[.int .i64 2, .bool b, .int .i64 g, .int .i64 l, .int .i64 f], .int .i64 q, .int .i64 m] w (Bad w 23) := by
  go_enter Try.func27, Try.ntmps27
  go_wp2
  refine bodyPost_ret (by simp [results, Try.results27, go_sem]; try rfl) rfl ⟨rfl, ?_⟩
  go_grown
set_option maxHeartbeats 1000000 in
theorem take_qty_high_2 (g l f q m : Int) (b : Bool) (w : World) (h : 1 ≤ q) (h1 : l < q) : Calls Try.prog 27 #[.agg #[.int .i64 2, .bool b, .int .i64 g, .int .i64 l, .int .i64 f], .int .i64 q, .int .i64 m] w (Bad w 23) := by
  go_enter Try.func27, Try.ntmps27
  go_wp2
  refine bodyPost_ret (by simp [results, Try.results27, go_sem]; try rfl) rfl ⟨rfl, ?_⟩
  go_grown
set_option maxHeartbeats 1000000 in
theorem take_limit_2 (g l f q m : Int) (b : Bool) (w : World) (h : 1 ≤ q) (h1 : q ≤ l) (h2 : m ≤ f) : Calls Try.prog 27 #[.agg #[.int .i64 2, .bool b, .int .i64 g, .int .i64 l, .int .i64 f], .int .i64 q, .int .i64 m] w (Bad w 4) := by
  go_enter Try.func27, Try.ntmps27
  go_wp2
  refine bodyPost_ret (by simp [results, Try.results27, go_sem]; try rfl) rfl ⟨rfl, ?_⟩
  go_grown
set_option maxHeartbeats 1000000 in
theorem take_full_2 (g l f q m : Int) (b : Bool) (w : World) (h : 1 ≤ q) (h1 : q ≤ l) (h2 : f < m) (h5 : l ≤ 9223372036854775807) (h6 : m ≤ 9223372036854775807) (h7 : -9223372036854775808 ≤ f) (h3 : l - q = 0) : Calls Try.prog 27 #[.agg #[.int .i64 2, .bool b, .int .i64 g, .int .i64 l, .int .i64 f], .int .i64 q, .int .i64 m] w (Got w 5 g (l - q) (f + 1) false) := by
  have e0 : (l - q == 0) = true := by rw [beq_iff_eq]; exact h3
  have H3 := Lib.hid h3
  clear h3
  go_enter Try.func27, Try.ntmps27
  go_wp2
  refine bodyPost_ret (by simp [results, Try.results27, go_sem]; try rfl) rfl ⟨rfl, ?_⟩
  go_grown
set_option maxHeartbeats 1000000 in
theorem take_retire_2 (g l f q m : Int) (b : Bool) (w : World) (h : 1 ≤ q) (h1 : q ≤ l) (h2 : f < m) (h5 : l ≤ 9223372036854775807) (h6 : m ≤ 9223372036854775807) (h7 : -9223372036854775808 ≤ f) (h3 : l - q ≠ 0) (h4 : m ≤ f + 1) : Calls Try.prog 27 #[.agg #[.int .i64 2, .bool b, .int .i64 g, .int .i64 l, .int .i64 f], .int .i64 q, .int .i64 m] w (Got w 8 g (l - q) (f + 1) false) := by
  have e0 : (l - q == 0) = false := by rw [beq_eq_false_iff_ne]; exact h3
  go_enter Try.func27, Try.ntmps27
  go_wp2
  refine bodyPost_ret (by simp [results, Try.results27, go_sem]; try rfl) rfl ⟨rfl, ?_⟩
  go_grown
set_option maxHeartbeats 1000000 in
theorem take_on_2 (g l f q m : Int) (b : Bool) (w : World) (h : 1 ≤ q) (h1 : q ≤ l) (h2 : f < m) (h5 : l ≤ 9223372036854775807) (h6 : m ≤ 9223372036854775807) (h7 : -9223372036854775808 ≤ f) (h3 : l - q ≠ 0) (h4 : f + 1 < m) : Calls Try.prog 27 #[.agg #[.int .i64 2, .bool b, .int .i64 g, .int .i64 l, .int .i64 f], .int .i64 q, .int .i64 m] w (Got w 2 g (l - q) (f + 1) b) := by
  have e0 : (l - q == 0) = false := by rw [beq_eq_false_iff_ne]; exact h3
  go_enter Try.func27, Try.ntmps27
  go_wp2
  refine bodyPost_ret (by simp [results, Try.results27, go_sem]; try rfl) rfl ⟨rfl, ?_⟩
  go_grown
end Go.Proofs.Ytbooncoealpfdaa

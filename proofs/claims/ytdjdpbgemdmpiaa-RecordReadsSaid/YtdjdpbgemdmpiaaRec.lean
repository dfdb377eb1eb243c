/-
  Contracts of record.IsEnd and record.Next, and of the awake of layer 8: what they answer, in a world that only grows.
-/
import Derived.Test.YtdjdpbgemdmpiaaRows
import Derived.WalkKit
import Derived.ProofKit
import Derived.OpenShut
import Derived.ShutString
import Derived.Below
import Derived.Outline
import Derived.WalkLawsBesides
import Derived.WalkSpells
import Derived.Handy
import Derived.Deep.QuietTactic
import Derived.BigQuiet
import Derived.RegionTactic
import Derived.ChangeAlike
namespace Go.Proofs.Ytdjdpbgemdmpiaa
open Go.ChangeShapes Go.WideShapes Go.ChangeAt Go.RowKit

/-! Contracts of record.IsEnd, record.Next, and of the awake of layer 8. -/
set_option maxHeartbeats 400000 in
theorem awake08 (w : World) : Calls Try.prog 37 #[] w fun e w' => e = .returned (.bool true) ∧ Below w.heap.size w w' := by
  go_enter Try.func37, Try.ntmps37
  go_wp2
  go_ret
  exact ⟨rfl, by go_grown⟩

theorem isEnd_yes (k q p t c g : Int) (w : World) (h1 : 2 ≤ k) (h2 : k ≤ 5) : Calls Try.prog 59 #[.agg #[.int .i64 k, .int .i64 q, .int .i64 p, .int .i64 t, .int .i64 c, .int .i64 g]] w fun e w' => e = .returned (.bool true) ∧ Below w.heap.size w w' := by
  go_enter Try.func59, Try.ntmps59
  go_wp2
  go_ret
  exact ⟨rfl, by go_grown⟩
theorem isEnd_low (k q p t c g : Int) (w : World) (h1 : k < 2) : Calls Try.prog 59 #[.agg #[.int .i64 k, .int .i64 q, .int .i64 p, .int .i64 t, .int .i64 c, .int .i64 g]] w fun e w' => e = .returned (.bool false) ∧ Below w.heap.size w w' := by
  go_enter Try.func59, Try.ntmps59
  go_wp2
  go_ret
  exact ⟨rfl, by go_grown⟩
theorem isEnd_high (k q p t c g : Int) (w : World) (h1 : 5 < k) : Calls Try.prog 59 #[.agg #[.int .i64 k, .int .i64 q, .int .i64 p, .int .i64 t, .int .i64 c, .int .i64 g]] w fun e w' => e = .returned (.bool false) ∧ Below w.heap.size w w' := by
  have hd : decide (k ≤ 5) = false := decide_eq_false (by omega)
  go_enter Try.func59, Try.ntmps59
  go_wp2
  go_ret
  exact ⟨rfl, by go_grown⟩

/-- what Next is called with, and what it answers -/
def NextPost (w : World) (k q p t c ge g n : Int) (e : Ending) (w' : World) : Prop :=
  e = .returned (.tuple #[.agg #[.int .i64 k, .int .i64 q, .int .i64 p, .int .i64 t, .int .i64 c, .int .i64 ge], .agg #[.int .i64 g, .int .i64 n]]) ∧ Below w.heap.size w w'

set_option maxHeartbeats 400000 in
theorem next_fill (g n q p t c ge k2 q2 p2 t2 c2 ge2 : Int) (w : World) (hn : n < 4611686018427387904) (hn1 : -9223372036854775808 ≤ n) :
    Calls Try.prog 39 #[.agg #[.int .i64 g, .int .i64 n], .agg #[.int .i64 1, .int .i64 q, .int .i64 p, .int .i64 t, .int .i64 c, .int .i64 ge], .agg #[.int .i64 k2, .int .i64 q2, .int .i64 p2, .int .i64 t2, .int .i64 c2, .int .i64 ge2]] w (NextPost w 1 q p t 0 0 g (n + 1)) := by
  go_enter Try.func39, Try.ntmps39
  go_wp2
  go_region
  go_wp2
  refine bodyPost_ret (by simp [results, Try.results39, go_sem]; try rfl) rfl ⟨rfl, ?_⟩
  go_grown

set_option maxHeartbeats 400000 in
theorem next_end (g n k q p t c ge k2 q2 t2 c2 ge2 : Int) (w : World) (hk : k ≠ 1) (h1 : 2 ≤ k2) (h2 : k2 ≤ 5) (hn : g < 4611686018427387904) (hn1 : -9223372036854775808 ≤ g) :
    Calls Try.prog 39 #[.agg #[.int .i64 g, .int .i64 n], .agg #[.int .i64 k, .int .i64 q, .int .i64 p, .int .i64 t, .int .i64 c, .int .i64 ge], .agg #[.int .i64 k2, .int .i64 q2, .int .i64 n, .int .i64 t2, .int .i64 c2, .int .i64 ge2]] w (NextPost w k2 q2 n t2 c2 ge2 (g + 1) 0) := by
  have hk1 : (k == 1) = false := by simpa using hk
  have hnn : (n == n) = true := by simp
  go_enter Try.func39, Try.ntmps39
  go_wp2
  go_region
  go_wp2
  refine bodyPost_ret (by simp [results, Try.results39, go_sem]; try rfl) rfl ⟨rfl, ?_⟩
  go_grown

set_option maxHeartbeats 400000 in
theorem next_wait (g n k q p t c ge k2 q2 p2 t2 c2 ge2 : Int) (w : World) (hk : k ≠ 1) (h1 : 2 ≤ k2) (h2 : k2 ≤ 5) (hp : p2 ≠ n) :
    Calls Try.prog 39 #[.agg #[.int .i64 g, .int .i64 n], .agg #[.int .i64 k, .int .i64 q, .int .i64 p, .int .i64 t, .int .i64 c, .int .i64 ge], .agg #[.int .i64 k2, .int .i64 q2, .int .i64 p2, .int .i64 t2, .int .i64 c2, .int .i64 ge2]] w (NextPost w 0 0 0 0 0 0 g n) := by
  have hk1 : (k == 1) = false := by simpa using hk
  have hnn : (p2 == n) = false := by simpa using hp
  go_enter Try.func39, Try.ntmps39
  go_wp2
  go_region
  go_wp2
  refine bodyPost_ret (by simp [results, Try.results39, go_sem]; try rfl) rfl ⟨rfl, ?_⟩
  go_grown
set_option maxHeartbeats 400000 in
theorem next_low (g n k q p t c ge k2 q2 p2 t2 c2 ge2 : Int) (w : World) (hk : k ≠ 1) (h1 : k2 < 2) :
    Calls Try.prog 39 #[.agg #[.int .i64 g, .int .i64 n], .agg #[.int .i64 k, .int .i64 q, .int .i64 p, .int .i64 t, .int .i64 c, .int .i64 ge], .agg #[.int .i64 k2, .int .i64 q2, .int .i64 p2, .int .i64 t2, .int .i64 c2, .int .i64 ge2]] w (NextPost w 0 0 0 0 0 0 g n) := by
  have hk1 : (k == 1) = false := by simpa using hk
  go_enter Try.func39, Try.ntmps39
  go_wp2
  go_region
  go_wp2
  refine bodyPost_ret (by simp [results, Try.results39, go_sem]; try rfl) rfl ⟨rfl, ?_⟩
  go_grown
set_option maxHeartbeats 400000 in
theorem next_high (g n k q p t c ge k2 q2 p2 t2 c2 ge2 : Int) (w : World) (hk : k ≠ 1) (h1 : 5 < k2) :
    Calls Try.prog 39 #[.agg #[.int .i64 g, .int .i64 n], .agg #[.int .i64 k, .int .i64 q, .int .i64 p, .int .i64 t, .int .i64 c, .int .i64 ge], .agg #[.int .i64 k2, .int .i64 q2, .int .i64 p2, .int .i64 t2, .int .i64 c2, .int .i64 ge2]] w (NextPost w 0 0 0 0 0 0 g n) := by
  have hk1 : (k == 1) = false := by simpa using hk
  go_enter Try.func39, Try.ntmps39
  go_wp2
  go_region
  go_wp2
  refine bodyPost_ret (by simp [results, Try.results39, go_sem]; try rfl) rfl ⟨rfl, ?_⟩
  go_grown
theorem first_is (w : World) : Calls Try.prog 38 #[] w fun e w' => e = .returned (.agg #[.int .i64 1, .int .i64 0]) ∧ Below w.heap.size w w' := by
  go_enter Try.func38, Try.ntmps38
  go_wp2
  refine bodyPost_ret (by simp [results, Try.results38, go_sem]; try rfl) rfl ⟨rfl, ?_⟩
  go_grown
end Go.Proofs.Ytdjdpbgemdmpiaa

/-
  Hold, Expire, Promote, and the example.
-/
import Derived.Test.YtgeognijglahfaaRows
import Derived.WalkKit
import Derived.ProofKit
import Derived.OpenShut
import Derived.ShutString
import Derived.Below
import Derived.Outline
import Derived.WalkLawsBesides
import Derived.WalkSpells
import Derived.Handy
import Derived.Deep.QuietTactic
import Derived.BigQuiet
import Derived.RegionTactic
import Derived.ChangeAlike
import Derived.Lib.Hide
import Derived.Test.YtgeognijglahfaaKit
import Derived.Test.YtgeognijglahfaaGive
import Derived.Test.YtgeognijglahfaaTurnA
namespace Go.Proofs.Ytgeognijglahfaa
open Go.ChangeShapes Go.WideShapes Go.ChangeAt Go.RowKit
set_option maxHeartbeats 1000000 in
theorem exp_1 (g l f : Int) (b : Bool) (w : World)  : Calls Try.prog 44 #[.agg #[.int .i64 1, .bool b, .int .i64 g, .int .i64 l, .int .i64 f]] w (Gives w 7 g l f b .nilIface) := by
  go_enter Try.func44, Try.ntmps44
  go_wp2
  refine bodyPost_ret (by simp [results, Try.results44, go_sem]; try rfl) rfl ⟨rfl, ?_⟩
  go_grown
set_option maxHeartbeats 1000000 in
theorem exp_2 (g l f : Int) (b : Bool) (w : World)  : Calls Try.prog 44 #[.agg #[.int .i64 2, .bool b, .int .i64 g, .int .i64 l, .int .i64 f]] w (Gives w 7 g l f b .nilIface) := by
  go_enter Try.func44, Try.ntmps44
  go_wp2
  refine bodyPost_ret (by simp [results, Try.results44, go_sem]; try rfl) rfl ⟨rfl, ?_⟩
  go_grown
set_option maxHeartbeats 1000000 in
theorem exp_busy (k g l f : Int) (b : Bool) (w : World) (n1 : k ≠ 1) (n2 : k ≠ 2) : Calls Try.prog 44 #[.agg #[.int .i64 k, .bool b, .int .i64 g, .int .i64 l, .int .i64 f]] w (Gives w 0 0 0 0 false (.iface 81 (.int .i64 27))) := by
  have e1 : (k == 1) = false := by rw [beq_eq_false_iff_ne]; exact n1
  have e2 : (k == 2) = false := by rw [beq_eq_false_iff_ne]; exact n2
  go_enter Try.func44, Try.ntmps44
  go_wp2
  refine bodyPost_ret (by simp [results, Try.results44, go_sem]; try rfl) rfl ⟨rfl, ?_⟩
  go_grown
set_option maxHeartbeats 1000000 in
theorem prom_1 (g l f : Int) (b : Bool) (w : World)  : Calls Try.prog 45 #[.agg #[.int .i64 1, .bool b, .int .i64 g, .int .i64 l, .int .i64 f]] w (Gives w 2 g l f b .nilIface) := by
  go_enter Try.func45, Try.ntmps45
  go_wp2
  refine bodyPost_ret (by simp [results, Try.results45, go_sem]; try rfl) rfl ⟨rfl, ?_⟩
  go_grown
set_option maxHeartbeats 1000000 in
theorem prom_gone (k g l f : Int) (b : Bool) (w : World) (n1 : k ≠ 1) : Calls Try.prog 45 #[.agg #[.int .i64 k, .bool b, .int .i64 g, .int .i64 l, .int .i64 f]] w (Gives w 0 0 0 0 false (.iface 81 (.int .i64 29))) := by
  have e1 : (k == 1) = false := by rw [beq_eq_false_iff_ne]; exact n1
  go_enter Try.func45, Try.ntmps45
  go_wp2
  refine bodyPost_ret (by simp [results, Try.results45, go_sem]; try rfl) rfl ⟨rfl, ?_⟩
  go_grown
set_option maxHeartbeats 1000000 in
theorem hold_1 (g l f : Int) (b : Bool) (w : World)  : Calls Try.prog 46 #[.agg #[.int .i64 1, .bool b, .int .i64 g, .int .i64 l, .int .i64 f]] w fun e w' => e = .returned (.agg #[.int .i64 3, .bool b, .int .i64 g, .int .i64 l, .int .i64 f]) ∧ Below w.heap.size w w' := by
  go_enter Try.func46, Try.ntmps46
  go_wp2
  refine bodyPost_ret (by simp [results, Try.results46, go_sem]; try rfl) rfl ⟨rfl, ?_⟩
  go_grown
set_option maxHeartbeats 1000000 in
theorem hold_2 (g l f : Int) (b : Bool) (w : World)  : Calls Try.prog 46 #[.agg #[.int .i64 2, .bool b, .int .i64 g, .int .i64 l, .int .i64 f]] w fun e w' => e = .returned (.agg #[.int .i64 4, .bool b, .int .i64 g, .int .i64 l, .int .i64 f]) ∧ Below w.heap.size w w' := by
  go_enter Try.func46, Try.ntmps46
  go_wp2
  refine bodyPost_ret (by simp [results, Try.results46, go_sem]; try rfl) rfl ⟨rfl, ?_⟩
  go_grown
set_option maxHeartbeats 1000000 in
theorem hold_same (k g l f : Int) (b : Bool) (w : World) (n1 : k ≠ 1) (n2 : k ≠ 2) : Calls Try.prog 46 #[.agg #[.int .i64 k, .bool b, .int .i64 g, .int .i64 l, .int .i64 f]] w fun e w' => e = .returned (.agg #[.int .i64 k, .bool b, .int .i64 g, .int .i64 l, .int .i64 f]) ∧ Below w.heap.size w w' := by
  have e1 : (k == 1) = false := by rw [beq_eq_false_iff_ne]; exact n1
  have e2 : (k == 2) = false := by rw [beq_eq_false_iff_ne]; exact n2
  go_enter Try.func46, Try.ntmps46
  go_wp2
  refine bodyPost_ret (by simp [results, Try.results46, go_sem]; try rfl) rfl ⟨rfl, ?_⟩
  go_grown
set_option maxHeartbeats 2000000 in
theorem awake06 (w : World) : Calls Try.prog 29 #[] w fun e w' => e = .returned (.bool true) ∧ Below w.heap.size w w' := by
  go_enter Try.func29, Try.ntmps29
  go_wp2_with fail
  refine (c_take_full_2 1 5 0 5 3 false _ (by omega) (by omega) (by omega) (by omega) (by omega) (by omega) (by omega)).mono ?_
  rintro e w1 ⟨rfl, hb1⟩
  have hB1 : Below w.heap.size w w1 := Below.step (by go_grown) hb1
  have hs1 := hB1.size
  go_wp2_with fail
  refine (c_relz_on_true_4 1 5 0 3 _ (by omega) (by omega)).mono ?_
  rintro e w2 ⟨rfl, hb2⟩
  obtain ⟨hc2, hf2⟩ := bcell hb2
  have hz2 := hb2.size
  have hB2 : Below w.heap.size w w2 := Below.step (by go_grown) hb2
  try simp only [World.size_alloc] at hz2 hc2 hf2
  have hy2 : w1.heap.size < w2.heap.size := by omega
  have hs2 := hB2.size
  go_wp2
  go_ret
  exact ⟨rfl, by go_grown⟩
end Go.Proofs.Ytgeognijglahfaa

/-
  Contracts of cell.Release, and of the awake of layer 6.
-/
import Derived.Test.YtbooncoealpfdaaRows
import Derived.WalkKit
import Derived.ProofKit
import Derived.OpenShut
import Derived.ShutString
import Derived.Below
import Derived.Outline
import Derived.WalkLawsBesides
import Derived.WalkSpells
import Derived.Handy
import Derived.Deep.QuietTactic
import Derived.BigQuiet
import Derived.RegionTactic
import Derived.ChangeAlike
import Derived.Lib.Hide
import Derived.Test.YtbooncoealpfdaaCell
namespace Go.Proofs.Ytbooncoealpfdaa
open Go.ChangeShapes Go.WideShapes Go.ChangeAt Go.RowKit
set_option maxHeartbeats 1000000 in
theorem rel_low_3 (g l f q m : Int) (b : Bool) (w : World) (h : q < 0) : Calls Try.prog 28 #[.agg #[.int .i64 3, .bool b, .int .i64 g, .int .i64 l, .int .i64 f], .int .i64 q, .int .i64 m] w (Bad w 23) := by
  go_enter Try.func28, Try.ntmps28
  go_wp2
  refine bodyPost_ret (by simp [results, Try.results28, go_sem]; try rfl) rfl ⟨rfl, ?_⟩
  go_grown
set_option maxHeartbeats 1000000 in
theorem rel_high_3 (g l f q m : Int) (b : Bool) (w : World) (h : 0 ≤ q) (h1 : l < q) : Calls Try.prog 28 #[.agg #[.int .i64 3, .bool b, .int .i64 g, .int .i64 l, .int .i64 f], .int .i64 q, .int .i64 m] w (Bad w 23) := by
  go_enter Try.func28, Try.ntmps28
  go_wp2
  refine bodyPost_ret (by simp [results, Try.results28, go_sem]; try rfl) rfl ⟨rfl, ?_⟩
  go_grown
set_option maxHeartbeats 1000000 in
theorem rel_limit_3 (g l f q m : Int) (b : Bool) (w : World) (h : 1 ≤ q) (h1 : q ≤ l) (h2 : m ≤ f) : Calls Try.prog 28 #[.agg #[.int .i64 3, .bool b, .int .i64 g, .int .i64 l, .int .i64 f], .int .i64 q, .int .i64 m] w (Bad w 4) := by
  have eq0 : (q != 0) = true := by rw [bne_iff_ne]; omega
  go_enter Try.func28, Try.ntmps28
  go_wp2
  refine bodyPost_ret (by simp [results, Try.results28, go_sem]; try rfl) rfl ⟨rfl, ?_⟩
  go_grown
set_option maxHeartbeats 1000000 in
theorem rel_full_3 (g l f q m : Int) (b : Bool) (w : World) (h : 1 ≤ q) (h1 : q ≤ l) (h2 : f < m) (h5 : l ≤ 9223372036854775807) (h6 : m ≤ 9223372036854775807) (h7 : -9223372036854775808 ≤ f) (h3 : l - q = 0) : Calls Try.prog 28 #[.agg #[.int .i64 3, .bool b, .int .i64 g, .int .i64 l, .int .i64 f], .int .i64 q, .int .i64 m] w (Got w 5 g (l - q) (f + 1) false) := by
  have eq0 : (q != 0) = true := by rw [bne_iff_ne]; omega
  have e0 : (l - q == 0) = true := by rw [beq_iff_eq]; exact h3
  have H3 := Lib.hid h3
  clear h3
  go_enter Try.func28, Try.ntmps28
  go_wp2
  refine bodyPost_ret (by simp [results, Try.results28, go_sem]; try rfl) rfl ⟨rfl, ?_⟩
  go_grown
set_option maxHeartbeats 1000000 in
theorem rel_retire_3 (g l f q m : Int) (b : Bool) (w : World) (h : 1 ≤ q) (h1 : q ≤ l) (h2 : f < m) (h5 : l ≤ 9223372036854775807) (h6 : m ≤ 9223372036854775807) (h7 : -9223372036854775808 ≤ f) (h3 : l - q ≠ 0) (h4 : m ≤ f + 1) : Calls Try.prog 28 #[.agg #[.int .i64 3, .bool b, .int .i64 g, .int .i64 l, .int .i64 f], .int .i64 q, .int .i64 m] w (Got w 8 g (l - q) (f + 1) false) := by
  have eq0 : (q != 0) = true := by rw [bne_iff_ne]; omega
  have e0 : (l - q == 0) = false := by rw [beq_eq_false_iff_ne]; exact h3
  go_enter Try.func28, Try.ntmps28
  go_wp2
  refine bodyPost_ret (by simp [results, Try.results28, go_sem]; try rfl) rfl ⟨rfl, ?_⟩
  go_grown
set_option maxHeartbeats 1000000 in
theorem rel_on_true_3 (g l f q m : Int) (w : World) (h : 1 ≤ q) (h1 : q ≤ l) (h2 : f < m) (h5 : l ≤ 9223372036854775807) (h6 : m ≤ 9223372036854775807) (h7 : -9223372036854775808 ≤ f) (h3 : l - q ≠ 0) (h4 : f + 1 < m) : Calls Try.prog 28 #[.agg #[.int .i64 3, .bool true, .int .i64 g, .int .i64 l, .int .i64 f], .int .i64 q, .int .i64 m] w (Got w 6 g (l - q) (f + 1) false) := by
  have eq0 : (q != 0) = true := by rw [bne_iff_ne]; omega
  have e0 : (l - q == 0) = false := by rw [beq_eq_false_iff_ne]; exact h3
  go_enter Try.func28, Try.ntmps28
  go_wp2
  refine bodyPost_ret (by simp [results, Try.results28, go_sem]; try rfl) rfl ⟨rfl, ?_⟩
  go_grown
set_option maxHeartbeats 1000000 in
theorem rel_on_false_3 (g l f q m : Int) (w : World) (h : 1 ≤ q) (h1 : q ≤ l) (h2 : f < m) (h5 : l ≤ 9223372036854775807) (h6 : m ≤ 9223372036854775807) (h7 : -9223372036854775808 ≤ f) (h3 : l - q ≠ 0) (h4 : f + 1 < m) : Calls Try.prog 28 #[.agg #[.int .i64 3, .bool false, .int .i64 g, .int .i64 l, .int .i64 f], .int .i64 q, .int .i64 m] w (Got w 1 g (l - q) (f + 1) false) := by
  have eq0 : (q != 0) = true := by rw [bne_iff_ne]; omega
  have e0 : (l - q == 0) = false := by rw [beq_eq_false_iff_ne]; exact h3
  go_enter Try.func28, Try.ntmps28
  go_wp2
  refine bodyPost_ret (by simp [results, Try.results28, go_sem]; try rfl) rfl ⟨rfl, ?_⟩
  go_grown
set_option maxHeartbeats 1000000 in
theorem relz_full_3 (g f m : Int) (b : Bool) (w : World)  : Calls Try.prog 28 #[.agg #[.int .i64 3, .bool b, .int .i64 g, .int .i64 0, .int .i64 f], .int .i64 0, .int .i64 m] w (Got w 5 g 0 f false) := by
  go_enter Try.func28, Try.ntmps28
  go_wp2
  refine bodyPost_ret (by simp [results, Try.results28, go_sem]; try rfl) rfl ⟨rfl, ?_⟩
  go_grown
set_option maxHeartbeats 1000000 in
theorem relz_retire_3 (g l f m : Int) (b : Bool) (w : World) (h : 0 < l) (h4 : m ≤ f) : Calls Try.prog 28 #[.agg #[.int .i64 3, .bool b, .int .i64 g, .int .i64 l, .int .i64 f], .int .i64 0, .int .i64 m] w (Got w 8 g l f false) := by
  have e0 : (l == 0) = false := by rw [beq_eq_false_iff_ne]; omega
  go_enter Try.func28, Try.ntmps28
  go_wp2
  refine bodyPost_ret (by simp [results, Try.results28, go_sem]; try rfl) rfl ⟨rfl, ?_⟩
  go_grown
set_option maxHeartbeats 1000000 in
theorem relz_on_true_3 (g l f m : Int) (w : World) (h : 0 < l) (h4 : f < m) : Calls Try.prog 28 #[.agg #[.int .i64 3, .bool true, .int .i64 g, .int .i64 l, .int .i64 f], .int .i64 0, .int .i64 m] w (Got w 6 g l f false) := by
  have e0 : (l == 0) = false := by rw [beq_eq_false_iff_ne]; omega
  go_enter Try.func28, Try.ntmps28
  go_wp2
  refine bodyPost_ret (by simp [results, Try.results28, go_sem]; try rfl) rfl ⟨rfl, ?_⟩
  go_grown
set_option maxHeartbeats 1000000 in
theorem relz_on_false_3 (g l f m : Int) (w : World) (h : 0 < l) (h4 : f < m) : Calls Try.prog 28 #[.agg #[.int .i64 3, .bool false, .int .i64 g, .int .i64 l, .int .i64 f], .int .i64 0, .int .i64 m] w (Got w 1 g l f false) := by
  have e0 : (l == 0) = false := by rw [beq_eq_false_iff_ne]; omega
  go_enter Try.func28, Try.ntmps28
  go_wp2
  refine bodyPost_ret (by simp [results, Try.results28, go_sem]; try rfl) rfl ⟨rfl, ?_⟩
  go_grown
set_option maxHeartbeats 1000000 in
theorem rel_low_4 (g l f q m : Int) (b : Bool) (w : World) (h : q < 0) : Calls Try.prog 28 #[.agg #[.int .i64 4, .bool b, .int .i64 g, .int .i64 l, .int .i64 f], .int .i64 q, .int .i64 m] w (Bad w 23) := by
  go_enter Try.func28, Try.ntmps28
  go_wp2
  refine bodyPost_ret (by simp [results, Try.results28, go_sem]; try rfl) rfl ⟨rfl, ?_⟩
  go_grown
set_option maxHeartbeats 1000000 in
theorem rel_high_4 (g l f q m : Int) (b : Bool) (w : World) (h : 0 ≤ q) (h1 : l < q) : Calls Try.prog 28 #[.agg #[.int .i64 4, .bool b, .int .i64 g, .int .i64 l, .int .i64 f], .int .i64 q, .int .i64 m] w (Bad w 23) := by
  go_enter Try.func28, Try.ntmps28
  go_wp2
  refine bodyPost_ret (by simp [results, Try.results28, go_sem]; try rfl) rfl ⟨rfl, ?_⟩
  go_grown
set_option maxHeartbeats 1000000 in
theorem rel_limit_4 (g l f q m : Int) (b : Bool) (w : World) (h : 1 ≤ q) (h1 : q ≤ l) (h2 : m ≤ f) : Calls Try.prog 28 #[.agg #[.int .i64 4, .bool b, .int .i64 g, .int .i64 l, .int .i64 f], .int .i64 q, .int .i64 m] w (Bad w 4) := by
  have eq0 : (q != 0) = true := by rw [bne_iff_ne]; omega
  go_enter Try.func28, Try.ntmps28
  go_wp2
  refine bodyPost_ret (by simp [results, Try.results28, go_sem]; try rfl) rfl ⟨rfl, ?_⟩
  go_grown
set_option maxHeartbeats 1000000 in
theorem rel_full_4 (g l f q m : Int) (b : Bool) (w : World) (h : 1 ≤ q) (h1 : q ≤ l) (h2 : f < m) (h5 : l ≤ 9223372036854775807) (h6 : m ≤ 9223372036854775807) (h7 : -9223372036854775808 ≤ f) (h3 : l - q = 0) : Calls Try.prog 28 #[.agg #[.int .i64 4, .bool b, .int .i64 g, .int .i64 l, .int .i64 f], .int .i64 q, .int .i64 m] w (Got w 5 g (l - q) (f + 1) false) := by
  have eq0 : (q != 0) = true := by rw [bne_iff_ne]; omega
  have e0 : (l - q == 0) = true := by rw [beq_iff_eq]; exact h3
  have H3 := Lib.hid h3
  clear h3
  go_enter Try.func28, Try.ntmps28
  go_wp2
  refine bodyPost_ret (by simp [results, Try.results28, go_sem]; try rfl) rfl ⟨rfl, ?_⟩
  go_grown
set_option maxHeartbeats 1000000 in
theorem rel_retire_4 (g l f q m : Int) (b : Bool) (w : World) (h : 1 ≤ q) (h1 : q ≤ l) (h2 : f < m) (h5 : l ≤ 9223372036854775807) (h6 : m ≤ 9223372036854775807) (h7 : -9223372036854775808 ≤ f) (h3 : l - q ≠ 0) (h4 : m ≤ f + 1) : Calls Try.prog 28 #[.agg #[.int .i64 4, .bool b, .int .i64 g, .int .i64 l, .int .i64 f], .int .i64 q, .int .i64 m] w (Got w 8 g (l - q) (f + 1) false) := by
  have eq0 : (q != 0) = true := by rw [bne_iff_ne]; omega
  have e0 : (l - q == 0) = false := by rw [beq_eq_false_iff_ne]; exact h3
  go_enter Try.func28, Try.ntmps28
  go_wp2
  refine bodyPost_ret (by simp [results, Try.results28, go_sem]; try rfl) rfl ⟨rfl, ?_⟩
  go_grown
set_option maxHeartbeats 1000000 in
theorem rel_on_true_4 (g l f q m : Int) (w : World) (h : 1 ≤ q) (h1 : q ≤ l) (h2 : f < m) (h5 : l ≤ 9223372036854775807) (h6 : m ≤ 9223372036854775807) (h7 : -9223372036854775808 ≤ f) (h3 : l - q ≠ 0) (h4 : f + 1 < m) : Calls Try.prog 28 #[.agg #[.int .i64 4, .bool true, .int .i64 g, .int .i64 l, .int .i64 f], .int .i64 q, .int .i64 m] w (Got w 6 g (l - q) (f + 1) false) := by
  have eq0 : (q != 0) = true := by rw [bne_iff_ne]; omega
  have e0 : (l - q == 0) = false := by rw [beq_eq_false_iff_ne]; exact h3
  go_enter Try.func28, Try.ntmps28
  go_wp2
  refine bodyPost_ret (by simp [results, Try.results28, go_sem]; try rfl) rfl ⟨rfl, ?_⟩
  go_grown
set_option maxHeartbeats 1000000 in
theorem rel_on_false_4 (g l f q m : Int) (w : World) (h : 1 ≤ q) (h1 : q ≤ l) (h2 : f < m) (h5 : l ≤ 9223372036854775807) (h6 : m ≤ 9223372036854775807) (h7 : -9223372036854775808 ≤ f) (h3 : l - q ≠ 0) (h4 : f + 1 < m) : Calls Try.prog 28 #[.agg #[.int .i64 4, .bool false, .int .i64 g, .int .i64 l, .int .i64 f], .int .i64 q, .int .i64 m] w (Got w 2 g (l - q) (f + 1) false) := by
  have eq0 : (q != 0) = true := by rw [bne_iff_ne]; omega
  have e0 : (l - q == 0) = false := by rw [beq_eq_false_iff_ne]; exact h3
  go_enter Try.func28, Try.ntmps28
  go_wp2
  refine bodyPost_ret (by simp [results, Try.results28, go_sem]; try rfl) rfl ⟨rfl, ?_⟩
  go_grown
set_option maxHeartbeats 1000000 in
theorem relz_full_4 (g f m : Int) (b : Bool) (w : World)  : Calls Try.prog 28 #[.agg #[.int .i64 4, .bool b, .int .i64 g, .int .i64 0, .int .i64 f], .int .i64 0, .int .i64 m] w (Got w 5 g 0 f false) := by
  go_enter Try.func28, Try.ntmps28
  go_wp2
  refine bodyPost_ret (by simp [results, Try.results28, go_sem]; try rfl) rfl ⟨rfl, ?_⟩
  go_grown
set_option maxHeartbeats 1000000 in
theorem relz_retire_4 (g l f m : Int) (b : Bool) (w : World) (h : 0 < l) (h4 : m ≤ f) : Calls Try.prog 28 #[.agg #[.int .i64 4, .bool b, .int .i64 g, .int .i64 l, .int .i64 f], .int .i64 0, .int .i64 m] w (Got w 8 g l f false) := by
  have e0 : (l == 0) = false := by rw [beq_eq_false_iff_ne]; omega
  go_enter Try.func28, Try.ntmps28
  go_wp2
  refine bodyPost_ret (by simp [results, Try.results28, go_sem]; try rfl) rfl ⟨rfl, ?_⟩
  go_grown
set_option maxHeartbeats 1000000 in
theorem relz_on_true_4 (g l f m : Int) (w : World) (h : 0 < l) (h4 : f < m) : Calls Try.prog 28 #[.agg #[.int .i64 4, .bool true, .int .i64 g, .int .i64 l, .int .i64 f], .int .i64 0, .int .i64 m] w (Got w 6 g l f false) := by
  have e0 : (l == 0) = false := by rw [beq_eq_false_iff_ne]; omega
  go_enter Try.func28, Try.ntmps28
  go_wp2
  refine bodyPost_ret (by simp [results, Try.results28, go_sem]; try rfl) rfl ⟨rfl, ?_⟩
  go_grown
set_option maxHeartbeats 1000000 in
theorem relz_on_false_4 (g l f m : Int) (w : World) (h : 0 < l) (h4 : f < m) : Calls Try.prog 28 #[.agg #[.int .i64 4, .bool false, .int .i64 g, .int .i64 l, .int .i64 f], .int .i64 0, .int .i64 m] w (Got w 2 g l f false) := by
  have e0 : (l == 0) = false := by rw [beq_eq_false_iff_ne]; omega
  go_enter Try.func28, Try.ntmps28
  go_wp2
  refine bodyPost_ret (by simp [results, Try.results28, go_sem]; try rfl) rfl ⟨rfl, ?_⟩
  go_grown

set_option maxHeartbeats 2000000 in
theorem awake32 (w : World) : Calls Try.prog 32 #[] w fun e w' => e = .returned (.bool true) ∧ Below w.heap.size w w' := by
  go_enter Try.func32, Try.ntmps32
  go_wp2_with fail
  refine (take_full_2 1 5 0 5 3 false _ (by omega) (by omega) (by omega) (by omega) (by omega) (by omega) (by omega)).mono ?_
  rintro e w1 ⟨rfl, hb1⟩
  have hB1 : Below w.heap.size w w1 := Below.step (by go_grown) hb1
  have hs1 := hB1.size
  go_wp2_with fail
  refine (relz_on_true_4 1 5 0 3 _ (by omega) (by omega)).mono ?_
  rintro e w2 ⟨rfl, hb2⟩
  obtain ⟨hc2, hf2⟩ := bcell hb2
  have hz2 := hb2.size
  have hB2 : Below w.heap.size w w2 := Below.step (by go_grown) hb2
  try simp only [World.size_alloc] at hz2 hc2 hf2
  have hy2 : w1.heap.size < w2.heap.size := by omega
  have hs2 := hB2.size
  go_wp2
  go_ret
  exact ⟨rfl, by go_grown⟩
end Go.Proofs.Ytbooncoealpfdaa

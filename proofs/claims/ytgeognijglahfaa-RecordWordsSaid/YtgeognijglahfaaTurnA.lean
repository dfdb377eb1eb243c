/-
  Turns of cell, way by way.
-/
import Derived.Test.YtgeognijglahfaaRows
import Derived.WalkKit
import Derived.ProofKit
import Derived.OpenShut
import Derived.ShutString
import Derived.Below
import Derived.Outline
import Derived.WalkLawsBesides
import Derived.WalkSpells
import Derived.Handy
import Derived.Deep.QuietTactic
import Derived.BigQuiet
import Derived.RegionTactic
import Derived.ChangeAlike
import Derived.Lib.Hide
import Derived.Test.YtgeognijglahfaaKit
import Derived.Test.YtgeognijglahfaaGive
namespace Go.Proofs.Ytgeognijglahfaa
open Go.ChangeShapes Go.WideShapes Go.ChangeAt Go.RowKit
set_option maxHeartbeats 1000000 in
theorem c_take_busy (k g l f q m : Int) (b : Bool) (w : World) (n1 : k ≠ 1) (n2 : k ≠ 2) : Calls Try.prog 36 #[.agg #[.int .i64 k, .bool b, .int .i64 g, .int .i64 l, .int .i64 f], .int .i64 q, .int .i64 m] w (Gives w 0 0 0 0 false (.iface 81 (.int .i64 27))) := by
  have e1 : (k == 1) = false := by rw [beq_eq_false_iff_ne]; exact n1
  have e2 : (k == 2) = false := by rw [beq_eq_false_iff_ne]; exact n2
  go_enter Try.func36, Try.ntmps36
  go_wp2
  refine bodyPost_ret (by simp [results, Try.results36, go_sem]; try rfl) rfl ⟨rfl, ?_⟩
  go_grown
set_option maxHeartbeats 1000000 in
theorem c_take_low_1 (g l f q m : Int) (b : Bool) (w : World) (h : q < 1) : Calls Try.prog 36 #[.agg #[.int .i64 1, .bool b, .int .i64 g, .int .i64 l, .int .i64 f], .int .i64 q, .int .i64 m] w (Gives w 0 0 0 0 false (.iface 81 (.int .i64 23))) := by
  go_enter Try.func36, Try.ntmps36
  go_wp2
  refine bodyPost_ret (by simp [results, Try.results36, go_sem]; try rfl) rfl ⟨rfl, ?_⟩
  go_grown
set_option maxHeartbeats 1000000 in
theorem c_take_high_1 (g l f q m : Int) (b : Bool) (w : World) (h : 1 ≤ q) (h1 : l < q) : Calls Try.prog 36 #[.agg #[.int .i64 1, .bool b, .int .i64 g, .int .i64 l, .int .i64 f], .int .i64 q, .int .i64 m] w (Gives w 0 0 0 0 false (.iface 81 (.int .i64 23))) := by
  go_enter Try.func36, Try.ntmps36
  go_wp2
  refine bodyPost_ret (by simp [results, Try.results36, go_sem]; try rfl) rfl ⟨rfl, ?_⟩
  go_grown
set_option maxHeartbeats 1000000 in
theorem c_take_limit_1 (g l f q m : Int) (b : Bool) (w : World) (h : 1 ≤ q) (h1 : q ≤ l) (h2 : m ≤ f) : Calls Try.prog 36 #[.agg #[.int .i64 1, .bool b, .int .i64 g, .int .i64 l, .int .i64 f], .int .i64 q, .int .i64 m] w (Gives w 0 0 0 0 false (.iface 81 (.int .i64 4))) := by
  go_enter Try.func36, Try.ntmps36
  go_wp2
  refine bodyPost_ret (by simp [results, Try.results36, go_sem]; try rfl) rfl ⟨rfl, ?_⟩
  go_grown
set_option maxHeartbeats 1000000 in
theorem c_take_full_1 (g l f q m : Int) (b : Bool) (w : World) (h : 1 ≤ q) (h1 : q ≤ l) (h2 : f < m) (h5 : l ≤ 9223372036854775807) (h6 : m ≤ 9223372036854775807) (h7 : -9223372036854775808 ≤ f) (h3 : l - q = 0) : Calls Try.prog 36 #[.agg #[.int .i64 1, .bool b, .int .i64 g, .int .i64 l, .int .i64 f], .int .i64 q, .int .i64 m] w (Gives w 5 g (l - q) (f + 1) false (.nilIface)) := by
  have e0 : (l - q == 0) = true := by rw [beq_iff_eq]; exact h3
  have H3 := Lib.hid h3
  clear h3
  go_enter Try.func36, Try.ntmps36
  go_wp2
  refine bodyPost_ret (by simp [results, Try.results36, go_sem]; try rfl) rfl ⟨rfl, ?_⟩
  go_grown
set_option maxHeartbeats 1000000 in
theorem c_take_retire_1 (g l f q m : Int) (b : Bool) (w : World) (h : 1 ≤ q) (h1 : q ≤ l) (h2 : f < m) (h5 : l ≤ 9223372036854775807) (h6 : m ≤ 9223372036854775807) (h7 : -9223372036854775808 ≤ f) (h3 : l - q ≠ 0) (h4 : m ≤ f + 1) : Calls Try.prog 36 #[.agg #[.int .i64 1, .bool b, .int .i64 g, .int .i64 l, .int .i64 f], .int .i64 q, .int .i64 m] w (Gives w 8 g (l - q) (f + 1) false (.nilIface)) := by
  have e0 : (l - q == 0) = false := by rw [beq_eq_false_iff_ne]; exact h3
  go_enter Try.func36, Try.ntmps36
  go_wp2
  refine bodyPost_ret (by simp [results, Try.results36, go_sem]; try rfl) rfl ⟨rfl, ?_⟩
  go_grown
set_option maxHeartbeats 1000000 in
theorem c_take_on_1 (g l f q m : Int) (b : Bool) (w : World) (h : 1 ≤ q) (h1 : q ≤ l) (h2 : f < m) (h5 : l ≤ 9223372036854775807) (h6 : m ≤ 9223372036854775807) (h7 : -9223372036854775808 ≤ f) (h3 : l - q ≠ 0) (h4 : f + 1 < m) : Calls Try.prog 36 #[.agg #[.int .i64 1, .bool b, .int .i64 g, .int .i64 l, .int .i64 f], .int .i64 q, .int .i64 m] w (Gives w 1 g (l - q) (f + 1) b (.nilIface)) := by
  have e0 : (l - q == 0) = false := by rw [beq_eq_false_iff_ne]; exact h3
  go_enter Try.func36, Try.ntmps36
  go_wp2
  refine bodyPost_ret (by simp [results, Try.results36, go_sem]; try rfl) rfl ⟨rfl, ?_⟩
  go_grown
set_option maxHeartbeats 1000000 in
theorem c_take_low_2 (g l f q m : Int) (b : Bool) (w : World) (h : q < 1) : Calls Try.prog 36 #[.agg #[.int .i64 2, .bool b, .int .i64 g, .int .i64 l, .int .i64 f], .int .i64 q, .int .i64 m] w (Gives w 0 0 0 0 false (.iface 81 (.int .i64 23))) := by
  go_enter Try.func36, Try.ntmps36
  go_wp2
  refine bodyPost_ret (by simp [results, Try.results36, go_sem]; try rfl) rfl ⟨rfl, ?_⟩
  go_grown
set_option maxHeartbeats 1000000 in
theorem c_take_high_2 (g l f q m : Int) (b : Bool) (w : World) (h : 1 ≤ q) (h1 : l < q) : Calls Try.prog 36 #[.agg #[.int .i64 2, .bool b, .int .i64 g, .int .i64 l, .int .i64 f], .int .i64 q, .int .i64 m] w (Gives w 0 0 0 0 false (.iface 81 (.int .i64 23))) := by
  go_enter Try.func36, Try.ntmps36
  go_wp2
  refine bodyPost_ret (by simp [results, Try.results36, go_sem]; try rfl) rfl ⟨rfl, ?_⟩
  go_grown
set_option maxHeartbeats 1000000 in
theorem c_take_limit_2 (g l f q m : Int) (b : Bool) (w : World) (h : 1 ≤ q) (h1 : q ≤ l) (h2 : m ≤ f) : Calls Try.prog 36 #[.agg #[.int .i64 2, .bool b, .int .i64 g, .int .i64 l, .int .i64 f], .int .i64 q, .int .i64 m] w (Gives w 0 0 0 0 false (.iface 81 (.int .i64 4))) := by
  go_enter Try.func36, Try.ntmps36
  go_wp2
  refine bodyPost_ret (by simp [results, Try.results36, go_sem]; try rfl) rfl ⟨rfl, ?_⟩
  go_grown
set_option maxHeartbeats 1000000 in
theorem c_take_full_2 (g l f q m : Int) (b : Bool) (w : World) (h : 1 ≤ q) (h1 : q ≤ l) (h2 : f < m) (h5 : l ≤ 9223372036854775807) (h6 : m ≤ 9223372036854775807) (h7 : -9223372036854775808 ≤ f) (h3 : l - q = 0) : Calls Try.prog 36 #[.agg #[.int .i64 2, .bool b, .int .i64 g, .int .i64 l, .int .i64 f], .int .i64 q, .int .i64 m] w (Gives w 5 g (l - q) (f + 1) false (.nilIface)) := by
  have e0 : (l - q == 0) = true := by rw [beq_iff_eq]; exact h3
  have H3 := Lib.hid h3
  clear h3
  go_enter Try.func36, Try.ntmps36
  go_wp2
  refine bodyPost_ret (by simp [results, Try.results36, go_sem]; try rfl) rfl ⟨rfl, ?_⟩
  go_grown
set_option maxHeartbeats 1000000 in
theorem c_take_retire_2 (g l f q m : Int) (b : Bool) (w : World) (h : 1 ≤ q) (h1 : q ≤ l) (h2 : f < m) (h5 : l ≤ 9223372036854775807) (h6 : m ≤ 9223372036854775807) (h7 : -9223372036854775808 ≤ f) (h3 : l - q ≠ 0) (h4 : m ≤ f + 1) : Calls Try.prog 36 #[.agg #[.int .i64 2, .bool b, .int .i64 g, .int .i64 l, .int .i64 f], .int .i64 q, .int .i64 m] w (Gives w 8 g (l - q) (f + 1) false (.nilIface)) := by
  have e0 : (l - q == 0) = false := by rw [beq_eq_false_iff_ne]; exact h3
  go_enter Try.func36, Try.ntmps36
  go_wp2
  refine bodyPost_ret (by simp [results, Try.results36, go_sem]; try rfl) rfl ⟨rfl, ?_⟩
  go_grown
set_option maxHeartbeats 1000000 in
theorem c_take_on_2 (g l f q m : Int) (b : Bool) (w : World) (h : 1 ≤ q) (h1 : q ≤ l) (h2 : f < m) (h5 : l ≤ 9223372036854775807) (h6 : m ≤ 9223372036854775807) (h7 : -9223372036854775808 ≤ f) (h3 : l - q ≠ 0) (h4 : f + 1 < m) : Calls Try.prog 36 #[.agg #[.int .i64 2, .bool b, .int .i64 g, .int .i64 l, .int .i64 f], .int .i64 q, .int .i64 m] w (Gives w 2 g (l - q) (f + 1) b (.nilIface)) := by
  have e0 : (l - q == 0) = false := by rw [beq_eq_false_iff_ne]; exact h3
  go_enter Try.func36, Try.ntmps36
  go_wp2
  refine bodyPost_ret (by simp [results, Try.results36, go_sem]; try rfl) rfl ⟨rfl, ?_⟩
  go_grown
set_option maxHeartbeats 1000000 in
theorem c_rel_arg (k g l f q m : Int) (b : Bool) (w : World) (n3 : k ≠ 3) (n4 : k ≠ 4) : Calls Try.prog 38 #[.agg #[.int .i64 k, .bool b, .int .i64 g, .int .i64 l, .int .i64 f], .int .i64 q, .int .i64 m] w (Gives w 0 0 0 0 false (.iface 81 (.int .i64 1))) := by
  have e3 : (k == 3) = false := by rw [beq_eq_false_iff_ne]; exact n3
  have e4 : (k == 4) = false := by rw [beq_eq_false_iff_ne]; exact n4
  go_enter Try.func38, Try.ntmps38
  go_wp2
  refine bodyPost_ret (by simp [results, Try.results38, go_sem]; try rfl) rfl ⟨rfl, ?_⟩
  go_grown
set_option maxHeartbeats 1000000 in
theorem c_rel_low_3 (g l f q m : Int) (b : Bool) (w : World) (h : q < 0) : Calls Try.prog 38 #[.agg #[.int .i64 3, .bool b, .int .i64 g, .int .i64 l, .int .i64 f], .int .i64 q, .int .i64 m] w (Gives w 0 0 0 0 false (.iface 81 (.int .i64 23))) := by
  go_enter Try.func38, Try.ntmps38
  go_wp2
  refine bodyPost_ret (by simp [results, Try.results38, go_sem]; try rfl) rfl ⟨rfl, ?_⟩
  go_grown
set_option maxHeartbeats 1000000 in
theorem c_rel_high_3 (g l f q m : Int) (b : Bool) (w : World) (h : 0 ≤ q) (h1 : l < q) : Calls Try.prog 38 #[.agg #[.int .i64 3, .bool b, .int .i64 g, .int .i64 l, .int .i64 f], .int .i64 q, .int .i64 m] w (Gives w 0 0 0 0 false (.iface 81 (.int .i64 23))) := by
  go_enter Try.func38, Try.ntmps38
  go_wp2
  refine bodyPost_ret (by simp [results, Try.results38, go_sem]; try rfl) rfl ⟨rfl, ?_⟩
  go_grown
set_option maxHeartbeats 1000000 in
theorem c_rel_limit_3 (g l f q m : Int) (b : Bool) (w : World) (h : 1 ≤ q) (h1 : q ≤ l) (h2 : m ≤ f) : Calls Try.prog 38 #[.agg #[.int .i64 3, .bool b, .int .i64 g, .int .i64 l, .int .i64 f], .int .i64 q, .int .i64 m] w (Gives w 0 0 0 0 false (.iface 81 (.int .i64 4))) := by
  have eq0 : (q != 0) = true := by rw [bne_iff_ne]; omega
  have eq1 : 0 < q := by omega
  go_enter Try.func38, Try.ntmps38
  go_wp2
  refine bodyPost_ret (by simp [results, Try.results38, go_sem]; try rfl) rfl ⟨rfl, ?_⟩
  go_grown
set_option maxHeartbeats 1000000 in
theorem c_rel_full_3 (g l f q m : Int) (b : Bool) (w : World) (h : 1 ≤ q) (h1 : q ≤ l) (h2 : f < m) (h5 : l ≤ 9223372036854775807) (h6 : m ≤ 9223372036854775807) (h7 : -9223372036854775808 ≤ f) (h3 : l - q = 0) : Calls Try.prog 38 #[.agg #[.int .i64 3, .bool b, .int .i64 g, .int .i64 l, .int .i64 f], .int .i64 q, .int .i64 m] w (Gives w 5 g (l - q) (f + 1) false (.nilIface)) := by
  have eq0 : (q != 0) = true := by rw [bne_iff_ne]; omega
  have eq1 : 0 < q := by omega
  have e0 : (l - q == 0) = true := by rw [beq_iff_eq]; exact h3
  have H3 := Lib.hid h3
  clear h3
  go_enter Try.func38, Try.ntmps38
  go_wp2
  refine bodyPost_ret (by simp [results, Try.results38, go_sem]; try rfl) rfl ⟨rfl, ?_⟩
  go_grown
set_option maxHeartbeats 1000000 in
theorem c_rel_retire_3 (g l f q m : Int) (b : Bool) (w : World) (h : 1 ≤ q) (h1 : q ≤ l) (h2 : f < m) (h5 : l ≤ 9223372036854775807) (h6 : m ≤ 9223372036854775807) (h7 : -9223372036854775808 ≤ f) (h3 : l - q ≠ 0) (h4 : m ≤ f + 1) : Calls Try.prog 38 #[.agg #[.int .i64 3, .bool b, .int .i64 g, .int .i64 l, .int .i64 f], .int .i64 q, .int .i64 m] w (Gives w 8 g (l - q) (f + 1) false (.nilIface)) := by
  have eq0 : (q != 0) = true := by rw [bne_iff_ne]; omega
  have eq1 : 0 < q := by omega
  have e0 : (l - q == 0) = false := by rw [beq_eq_false_iff_ne]; exact h3
  go_enter Try.func38, Try.ntmps38
  go_wp2
  refine bodyPost_ret (by simp [results, Try.results38, go_sem]; try rfl) rfl ⟨rfl, ?_⟩
  go_grown
set_option maxHeartbeats 1000000 in
theorem c_rel_on_true_3 (g l f q m : Int) (w : World) (h : 1 ≤ q) (h1 : q ≤ l) (h2 : f < m) (h5 : l ≤ 9223372036854775807) (h6 : m ≤ 9223372036854775807) (h7 : -9223372036854775808 ≤ f) (h3 : l - q ≠ 0) (h4 : f + 1 < m) : Calls Try.prog 38 #[.agg #[.int .i64 3, .bool true, .int .i64 g, .int .i64 l, .int .i64 f], .int .i64 q, .int .i64 m] w (Gives w 6 g (l - q) (f + 1) false (.nilIface)) := by
  have eq0 : (q != 0) = true := by rw [bne_iff_ne]; omega
  have eq1 : 0 < q := by omega
  have e0 : (l - q == 0) = false := by rw [beq_eq_false_iff_ne]; exact h3
  go_enter Try.func38, Try.ntmps38
  go_wp2
  refine bodyPost_ret (by simp [results, Try.results38, go_sem]; try rfl) rfl ⟨rfl, ?_⟩
  go_grown
set_option maxHeartbeats 1000000 in
theorem c_rel_on_false_3 (g l f q m : Int) (w : World) (h : 1 ≤ q) (h1 : q ≤ l) (h2 : f < m) (h5 : l ≤ 9223372036854775807) (h6 : m ≤ 9223372036854775807) (h7 : -9223372036854775808 ≤ f) (h3 : l - q ≠ 0) (h4 : f + 1 < m) : Calls Try.prog 38 #[.agg #[.int .i64 3, .bool false, .int .i64 g, .int .i64 l, .int .i64 f], .int .i64 q, .int .i64 m] w (Gives w 1 g (l - q) (f + 1) false (.nilIface)) := by
  have eq0 : (q != 0) = true := by rw [bne_iff_ne]; omega
  have eq1 : 0 < q := by omega
  have e0 : (l - q == 0) = false := by rw [beq_eq_false_iff_ne]; exact h3
  go_enter Try.func38, Try.ntmps38
  go_wp2
  refine bodyPost_ret (by simp [results, Try.results38, go_sem]; try rfl) rfl ⟨rfl, ?_⟩
  go_grown
set_option maxHeartbeats 1000000 in
theorem c_relz_full_3 (g f m : Int) (b : Bool) (w : World)  : Calls Try.prog 38 #[.agg #[.int .i64 3, .bool b, .int .i64 g, .int .i64 0, .int .i64 f], .int .i64 0, .int .i64 m] w (Gives w 5 g 0 f false (.nilIface)) := by
  go_enter Try.func38, Try.ntmps38
  go_wp2
  refine bodyPost_ret (by simp [results, Try.results38, go_sem]; try rfl) rfl ⟨rfl, ?_⟩
  go_grown
set_option maxHeartbeats 1000000 in
theorem c_relz_retire_3 (g l f m : Int) (b : Bool) (w : World) (h : 0 < l) (h4 : m ≤ f) : Calls Try.prog 38 #[.agg #[.int .i64 3, .bool b, .int .i64 g, .int .i64 l, .int .i64 f], .int .i64 0, .int .i64 m] w (Gives w 8 g l f false (.nilIface)) := by
  have e0 : (l == 0) = false := by rw [beq_eq_false_iff_ne]; omega
  go_enter Try.func38, Try.ntmps38
  go_wp2
  refine bodyPost_ret (by simp [results, Try.results38, go_sem]; try rfl) rfl ⟨rfl, ?_⟩
  go_grown
set_option maxHeartbeats 1000000 in
theorem c_relz_on_true_3 (g l f m : Int) (w : World) (h : 0 < l) (h4 : f < m) : Calls Try.prog 38 #[.agg #[.int .i64 3, .bool true, .int .i64 g, .int .i64 l, .int .i64 f], .int .i64 0, .int .i64 m] w (Gives w 6 g l f false (.nilIface)) := by
  have e0 : (l == 0) = false := by rw [beq_eq_false_iff_ne]; omega
  go_enter Try.func38, Try.ntmps38
  go_wp2
  refine bodyPost_ret (by simp [results, Try.results38, go_sem]; try rfl) rfl ⟨rfl, ?_⟩
  go_grown
set_option maxHeartbeats 1000000 in
theorem c_relz_on_false_3 (g l f m : Int) (w : World) (h : 0 < l) (h4 : f < m) : Calls Try.prog 38 #[.agg #[.int .i64 3, .bool false, .int .i64 g, .int .i64 l, .int .i64 f], .int .i64 0, .int .i64 m] w (Gives w 1 g l f false (.nilIface)) := by
  have e0 : (l == 0) = false := by rw [beq_eq_false_iff_ne]; omega
  go_enter Try.func38, Try.ntmps38
  go_wp2
  refine bodyPost_ret (by simp [results, Try.results38, go_sem]; try rfl) rfl ⟨rfl, ?_⟩
  go_grown
set_option maxHeartbeats 1000000 in
theorem c_rel_low_4 (g l f q m : Int) (b : Bool) (w : World) (h : q < 0) : Calls Try.prog 38 #[.agg #[.int .i64 4, .bool b, .int .i64 g, .int .i64 l, .int .i64 f], .int .i64 q, .int .i64 m] w (Gives w 0 0 0 0 false (.iface 81 (.int .i64 23))) := by
  go_enter Try.func38, Try.ntmps38
  go_wp2
  refine bodyPost_ret (by simp [results, Try.results38, go_sem]; try rfl) rfl ⟨rfl, ?_⟩
  go_grown
set_option maxHeartbeats 1000000 in
theorem c_rel_high_4 (g l f q m : Int) (b : Bool) (w : World) (h : 0 ≤ q) (h1 : l < q) : Calls Try.prog 38 #[.agg #[.int .i64 4, .bool b, .int .i64 g, .int .i64 l, .int .i64 f], .int .i64 q, .int .i64 m] w (Gives w 0 0 0 0 false (.iface 81 (.int .i64 23))) := by
  go_enter Try.func38, Try.ntmps38
  go_wp2
  refine bodyPost_ret (by simp [results, Try.results38, go_sem]; try rfl) rfl ⟨rfl, ?_⟩
  go_grown
set_option maxHeartbeats 1000000 in
theorem c_rel_limit_4 (g l f q m : Int) (b : Bool) (w : World) (h : 1 ≤ q) (h1 : q ≤ l) (h2 : m ≤ f) : Calls Try.prog 38 #[.agg #[.int .i64 4, .bool b, .int .i64 g, .int .i64 l, .int .i64 f], .int .i64 q, .int .i64 m] w (Gives w 0 0 0 0 false (.iface 81 (.int .i64 4))) := by
  have eq0 : (q != 0) = true := by rw [bne_iff_ne]; omega
  have eq1 : 0 < q := by omega
  go_enter Try.func38, Try.ntmps38
  go_wp2
  refine bodyPost_ret (by simp [results, Try.results38, go_sem]; try rfl) rfl ⟨rfl, ?_⟩
  go_grown
set_option maxHeartbeats 1000000 in
theorem c_rel_full_4 (g l f q m : Int) (b : Bool) (w : World) (h : 1 ≤ q) (h1 : q ≤ l) (h2 : f < m) (h5 : l ≤ 9223372036854775807) (h6 : m ≤ 9223372036854775807) (h7 : -9223372036854775808 ≤ f) (h3 : l - q = 0) : Calls Try.prog 38 #[.agg #[.int .i64 4, .bool b, .int .i64 g, .int .i64 l, .int .i64 f], .int .i64 q, .int .i64 m] w (Gives w 5 g (l - q) (f + 1) false (.nilIface)) := by
  have eq0 : (q != 0) = true := by rw [bne_iff_ne]; omega
  have eq1 : 0 < q := by omega
  have e0 : (l - q == 0) = true := by rw [beq_iff_eq]; exact h3
  have H3 := Lib.hid h3
  clear h3
  go_enter Try.func38, Try.ntmps38
  go_wp2
  refine bodyPost_ret (by simp [results, Try.results38, go_sem]; try rfl) rfl ⟨rfl, ?_⟩
  go_grown
set_option maxHeartbeats 1000000 in
theorem c_rel_retire_4 (g l f q m : Int) (b : Bool) (w : World) (h : 1 ≤ q) (h1 : q ≤ l) (h2 : f < m) (h5 : l ≤ 9223372036854775807) (h6 : m ≤ 9223372036854775807) (h7 : -9223372036854775808 ≤ f) (h3 : l - q ≠ 0) (h4 : m ≤ f + 1) : Calls Try.prog 38 #[.agg #[.int .i64 4, .bool b, .int .i64 g, .int .i64 l, .int .i64 f], .int .i64 q, .int .i64 m] w (Gives w 8 g (l - q) (f + 1) false (.nilIface)) := by
  have eq0 : (q != 0) = true := by rw [bne_iff_ne]; omega
  have eq1 : 0 < q := by omega
  have e0 : (l - q == 0) = false := by rw [beq_eq_false_iff_ne]; exact h3
  go_enter Try.func38, Try.ntmps38
  go_wp2
  refine bodyPost_ret (by simp [results, Try.results38, go_sem]; try rfl) rfl ⟨rfl, ?_⟩
  go_grown
set_option maxHeartbeats 1000000 in
theorem c_rel_on_true_4 (g l f q m : Int) (w : World) (h : 1 ≤ q) (h1 : q ≤ l) (h2 : f < m) (h5 : l ≤ 9223372036854775807) (h6 : m ≤ 9223372036854775807) (h7 : -9223372036854775808 ≤ f) (h3 : l - q ≠ 0) (h4 : f + 1 < m) : Calls Try.prog 38 #[.agg #[.int .i64 4, .bool true, .int .i64 g, .int .i64 l, .int .i64 f], .int .i64 q, .int .i64 m] w (Gives w 6 g (l - q) (f + 1) false (.nilIface)) := by
  have eq0 : (q != 0) = true := by rw [bne_iff_ne]; omega
  have eq1 : 0 < q := by omega
  have e0 : (l - q == 0) = false := by rw [beq_eq_false_iff_ne]; exact h3
  go_enter Try.func38, Try.ntmps38
  go_wp2
  refine bodyPost_ret (by simp [results, Try.results38, go_sem]; try rfl) rfl ⟨rfl, ?_⟩
  go_grown
set_option maxHeartbeats 1000000 in
theorem c_rel_on_false_4 (g l f q m : Int) (w : World) (h : 1 ≤ q) (h1 : q ≤ l) (h2 : f < m) (h5 : l ≤ 9223372036854775807) (h6 : m ≤ 9223372036854775807) (h7 : -9223372036854775808 ≤ f) (h3 : l - q ≠ 0) (h4 : f + 1 < m) : Calls Try.prog 38 #[.agg #[.int .i64 4, .bool false, .int .i64 g, .int .i64 l, .int .i64 f], .int .i64 q, .int .i64 m] w (Gives w 2 g (l - q) (f + 1) false (.nilIface)) := by
  have eq0 : (q != 0) = true := by rw [bne_iff_ne]; omega
  have eq1 : 0 < q := by omega
  have e0 : (l - q == 0) = false := by rw [beq_eq_false_iff_ne]; exact h3
  go_enter Try.func38, Try.ntmps38
  go_wp2
  refine bodyPost_ret (by simp [results, Try.results38, go_sem]; try rfl) rfl ⟨rfl, ?_⟩
  go_grown
set_option maxHeartbeats 1000000 in
theorem c_relz_full_4 (g f m : Int) (b : Bool) (w : World)  : Calls Try.prog 38 #[.agg #[.int .i64 4, .bool b, .int .i64 g, .int .i64 0, .int .i64 f], .int .i64 0, .int .i64 m] w (Gives w 5 g 0 f false (.nilIface)) := by
  go_enter Try.func38, Try.ntmps38
  go_wp2
  refine bodyPost_ret (by simp [results, Try.results38, go_sem]; try rfl) rfl ⟨rfl, ?_⟩
  go_grown
set_option maxHeartbeats 1000000 in
theorem c_relz_retire_4 (g l f m : Int) (b : Bool) (w : World) (h : 0 < l) (h4 : m ≤ f) : Calls Try.prog 38 #[.agg #[.int .i64 4, .bool b, .int .i64 g, .int .i64 l, .int .i64 f], .int .i64 0, .int .i64 m] w (Gives w 8 g l f false (.nilIface)) := by
  have e0 : (l == 0) = false := by rw [beq_eq_false_iff_ne]; omega
  go_enter Try.func38, Try.ntmps38
  go_wp2
  refine bodyPost_ret (by simp [results, Try.results38, go_sem]; try rfl) rfl ⟨rfl, ?_⟩
  go_grown
set_option maxHeartbeats 1000000 in
theorem c_relz_on_true_4 (g l f m : Int) (w : World) (h : 0 < l) (h4 : f < m) : Calls Try.prog 38 #[.agg #[.int .i64 4, .bool true, .int .i64 g, .int .i64 l, .int .i64 f], .int .i64 0, .int .i64 m] w (Gives w 6 g l f false (.nilIface)) := by
  have e0 : (l == 0) = false := by rw [beq_eq_false_iff_ne]; omega
  go_enter Try.func38, Try.ntmps38
  go_wp2
  refine bodyPost_ret (by simp [results, Try.results38, go_sem]; try rfl) rfl ⟨rfl, ?_⟩
  go_grown
set_option maxHeartbeats 1000000 in
theorem c_relz_on_false_4 (g l f m : Int) (w : World) (h : 0 < l) (h4 : f < m) : Calls Try.prog 38 #[.agg #[.int .i64 4, .bool false, .int .i64 g, .int .i64 l, .int .i64 f], .int .i64 0, .int .i64 m] w (Gives w 2 g l f false (.nilIface)) := by
  have e0 : (l == 0) = false := by rw [beq_eq_false_iff_ne]; omega
  go_enter Try.func38, Try.ntmps38
  go_wp2
  refine bodyPost_ret (by simp [results, Try.results38, go_sem]; try rfl) rfl ⟨rfl, ?_⟩
  go_grown
set_option maxHeartbeats 1000000 in
theorem c_can_gone (k g l f : Int) (b : Bool) (w : World) (n1 : k ≠ 1) (n2 : k ≠ 2) (n3 : k ≠ 3) (n4 : k ≠ 4) : Calls Try.prog 40 #[.agg #[.int .i64 k, .bool b, .int .i64 g, .int .i64 l, .int .i64 f]] w (Gives w 0 0 0 0 false (.iface 81 (.int .i64 29))) := by
  have e1 : (k == 1) = false := by rw [beq_eq_false_iff_ne]; exact n1
  have e2 : (k == 2) = false := by rw [beq_eq_false_iff_ne]; exact n2
  have e3 : (k == 3) = false := by rw [beq_eq_false_iff_ne]; exact n3
  have e4 : (k == 4) = false := by rw [beq_eq_false_iff_ne]; exact n4
  go_enter Try.func40, Try.ntmps40
  go_wp2
  refine bodyPost_ret (by simp [results, Try.results40, go_sem]; try rfl) rfl ⟨rfl, ?_⟩
  go_grown
set_option maxHeartbeats 1000000 in
theorem c_can_1 (g l f : Int) (b : Bool) (w : World)  : Calls Try.prog 40 #[.agg #[.int .i64 1, .bool b, .int .i64 g, .int .i64 l, .int .i64 f]] w (Gives w 6 g l f b (.nilIface)) := by
  go_enter Try.func40, Try.ntmps40
  go_wp2
  refine bodyPost_ret (by simp [results, Try.results40, go_sem]; try rfl) rfl ⟨rfl, ?_⟩
  go_grown
set_option maxHeartbeats 1000000 in
theorem c_can_2 (g l f : Int) (b : Bool) (w : World)  : Calls Try.prog 40 #[.agg #[.int .i64 2, .bool b, .int .i64 g, .int .i64 l, .int .i64 f]] w (Gives w 6 g l f b (.nilIface)) := by
  go_enter Try.func40, Try.ntmps40
  go_wp2
  refine bodyPost_ret (by simp [results, Try.results40, go_sem]; try rfl) rfl ⟨rfl, ?_⟩
  go_grown
set_option maxHeartbeats 1000000 in
theorem c_can_3 (g l f : Int) (b : Bool) (w : World)  : Calls Try.prog 40 #[.agg #[.int .i64 3, .bool b, .int .i64 g, .int .i64 l, .int .i64 f]] w (Gives w 3 g l f true (.nilIface)) := by
  go_enter Try.func40, Try.ntmps40
  go_wp2
  refine bodyPost_ret (by simp [results, Try.results40, go_sem]; try rfl) rfl ⟨rfl, ?_⟩
  go_grown
set_option maxHeartbeats 1000000 in
theorem c_can_4 (g l f : Int) (b : Bool) (w : World)  : Calls Try.prog 40 #[.agg #[.int .i64 4, .bool b, .int .i64 g, .int .i64 l, .int .i64 f]] w (Gives w 4 g l f true (.nilIface)) := by
  go_enter Try.func40, Try.ntmps40
  go_wp2
  refine bodyPost_ret (by simp [results, Try.results40, go_sem]; try rfl) rfl ⟨rfl, ?_⟩
  go_grown
set_option maxHeartbeats 1000000 in
theorem c_beg_busy_1 (g l f q m : Int) (b : Bool) (w : World)  : Calls Try.prog 42 #[.agg #[.int .i64 1, .bool b, .int .i64 g, .int .i64 l, .int .i64 f], .int .i64 q, .int .i64 m] w (Gives w 0 0 0 0 false (.iface 81 (.int .i64 27))) := by
  go_enter Try.func42, Try.ntmps42
  go_wp2
  refine bodyPost_ret (by simp [results, Try.results42, go_sem]; try rfl) rfl ⟨rfl, ?_⟩
  go_grown
set_option maxHeartbeats 1000000 in
theorem c_beg_busy_2 (g l f q m : Int) (b : Bool) (w : World)  : Calls Try.prog 42 #[.agg #[.int .i64 2, .bool b, .int .i64 g, .int .i64 l, .int .i64 f], .int .i64 q, .int .i64 m] w (Gives w 0 0 0 0 false (.iface 81 (.int .i64 27))) := by
  go_enter Try.func42, Try.ntmps42
  go_wp2
  refine bodyPost_ret (by simp [results, Try.results42, go_sem]; try rfl) rfl ⟨rfl, ?_⟩
  go_grown
set_option maxHeartbeats 1000000 in
theorem c_beg_busy_3 (g l f q m : Int) (b : Bool) (w : World)  : Calls Try.prog 42 #[.agg #[.int .i64 3, .bool b, .int .i64 g, .int .i64 l, .int .i64 f], .int .i64 q, .int .i64 m] w (Gives w 0 0 0 0 false (.iface 81 (.int .i64 27))) := by
  go_enter Try.func42, Try.ntmps42
  go_wp2
  refine bodyPost_ret (by simp [results, Try.results42, go_sem]; try rfl) rfl ⟨rfl, ?_⟩
  go_grown
set_option maxHeartbeats 1000000 in
theorem c_beg_busy_4 (g l f q m : Int) (b : Bool) (w : World)  : Calls Try.prog 42 #[.agg #[.int .i64 4, .bool b, .int .i64 g, .int .i64 l, .int .i64 f], .int .i64 q, .int .i64 m] w (Gives w 0 0 0 0 false (.iface 81 (.int .i64 27))) := by
  go_enter Try.func42, Try.ntmps42
  go_wp2
  refine bodyPost_ret (by simp [results, Try.results42, go_sem]; try rfl) rfl ⟨rfl, ?_⟩
  go_grown
set_option maxHeartbeats 1000000 in
theorem c_beg_full (k g l f q m : Int) (b : Bool) (w : World) (n1 : k ≠ 1) (n2 : k ≠ 2) (n3 : k ≠ 3) (n4 : k ≠ 4) (h : m ≤ g) : Calls Try.prog 42 #[.agg #[.int .i64 k, .bool b, .int .i64 g, .int .i64 l, .int .i64 f], .int .i64 q, .int .i64 m] w (Gives w 0 0 0 0 false (.iface 81 (.int .i64 28))) := by
  have e1 : (k == 1) = false := by rw [beq_eq_false_iff_ne]; exact n1
  have e2 : (k == 2) = false := by rw [beq_eq_false_iff_ne]; exact n2
  have e3 : (k == 3) = false := by rw [beq_eq_false_iff_ne]; exact n3
  have e4 : (k == 4) = false := by rw [beq_eq_false_iff_ne]; exact n4
  go_enter Try.func42, Try.ntmps42
  go_wp2
  refine bodyPost_ret (by simp [results, Try.results42, go_sem]; try rfl) rfl ⟨rfl, ?_⟩
  go_grown
set_option maxHeartbeats 1000000 in
theorem c_beg_low (k g l f q m : Int) (b : Bool) (w : World) (n1 : k ≠ 1) (n2 : k ≠ 2) (n3 : k ≠ 3) (n4 : k ≠ 4) (h : g < m) (h1 : q < 1) : Calls Try.prog 42 #[.agg #[.int .i64 k, .bool b, .int .i64 g, .int .i64 l, .int .i64 f], .int .i64 q, .int .i64 m] w (Gives w 0 0 0 0 false (.iface 81 (.int .i64 23))) := by
  have e1 : (k == 1) = false := by rw [beq_eq_false_iff_ne]; exact n1
  have e2 : (k == 2) = false := by rw [beq_eq_false_iff_ne]; exact n2
  have e3 : (k == 3) = false := by rw [beq_eq_false_iff_ne]; exact n3
  have e4 : (k == 4) = false := by rw [beq_eq_false_iff_ne]; exact n4
  go_enter Try.func42, Try.ntmps42
  go_wp2
  refine bodyPost_ret (by simp [results, Try.results42, go_sem]; try rfl) rfl ⟨rfl, ?_⟩
  go_grown
set_option maxHeartbeats 1000000 in
theorem c_beg_high (k g l f q m : Int) (b : Bool) (w : World) (n1 : k ≠ 1) (n2 : k ≠ 2) (n3 : k ≠ 3) (n4 : k ≠ 4) (h : g < m) (h0 : 1 ≤ q) (h1 : 9999 < q) : Calls Try.prog 42 #[.agg #[.int .i64 k, .bool b, .int .i64 g, .int .i64 l, .int .i64 f], .int .i64 q, .int .i64 m] w (Gives w 0 0 0 0 false (.iface 81 (.int .i64 23))) := by
  have e1 : (k == 1) = false := by rw [beq_eq_false_iff_ne]; exact n1
  have e2 : (k == 2) = false := by rw [beq_eq_false_iff_ne]; exact n2
  have e3 : (k == 3) = false := by rw [beq_eq_false_iff_ne]; exact n3
  have e4 : (k == 4) = false := by rw [beq_eq_false_iff_ne]; exact n4
  go_enter Try.func42, Try.ntmps42
  go_wp2
  refine bodyPost_ret (by simp [results, Try.results42, go_sem]; try rfl) rfl ⟨rfl, ?_⟩
  go_grown
set_option maxHeartbeats 1000000 in
theorem c_beg_ok (k g l f q m : Int) (b : Bool) (w : World) (n1 : k ≠ 1) (n2 : k ≠ 2) (n3 : k ≠ 3) (n4 : k ≠ 4) (h : g < m) (h0 : 1 ≤ q) (h1 : q ≤ 9999) (h5 : g < 1099511627776) (h6 : -1099511627776 < g) : Calls Try.prog 42 #[.agg #[.int .i64 k, .bool b, .int .i64 g, .int .i64 l, .int .i64 f], .int .i64 q, .int .i64 m] w (Gives w 1 (g + 1) q 0 false (.nilIface)) := by
  have e1 : (k == 1) = false := by rw [beq_eq_false_iff_ne]; exact n1
  have e2 : (k == 2) = false := by rw [beq_eq_false_iff_ne]; exact n2
  have e3 : (k == 3) = false := by rw [beq_eq_false_iff_ne]; exact n3
  have e4 : (k == 4) = false := by rw [beq_eq_false_iff_ne]; exact n4
  go_enter Try.func42, Try.ntmps42
  go_wp2
  refine bodyPost_ret (by simp [results, Try.results42, go_sem]; try rfl) rfl ⟨rfl, ?_⟩
  go_grown
end Go.Proofs.Ytgeognijglahfaa

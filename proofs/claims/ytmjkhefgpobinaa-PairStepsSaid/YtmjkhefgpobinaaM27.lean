/-
  Texts of the machine of pairs, part 27.
-/
import Derived.Laws.BitsAllLaws
import Derived.Laws.BitsLemmas
import Derived.Test.YtmjkhefgpobinaaM1
import Derived.Test.YtmjkhefgpobinaaM7
namespace Go.Proofs.Ytmjkhefgpobinaa
open Go.ChangeShapes Go.WideShapes Go.ChangeAt Go.RowKit
theorem below_drewN0 {B : Nat} {a w : World} (h : Below B a w) (n : Nat) : Below B a (w.drewN n) := ⟨h.os, h.tape, h.output, h.size, h.block⟩
set_option maxRecDepth 100000 in
set_option maxHeartbeats 4000000 in
theorem check_ok (p c n b r f g : Int) (w : World) (hp : 1 ≤ p ∧ p ≤ 6) (hc : 1 ≤ c ∧ c ≤ 4) (hn : 1 ≤ n ∧ n ≤ 3) (hb : 1 ≤ b ∧ b ≤ 4) (hr : 0 ≤ r ∧ r ≤ 4) (hf : 1 ≤ f ∧ f ≤ 4) (hg : 1 ≤ g ∧ g ≤ 15) : Calls Try.prog 54 #[.agg #[.int .i64 p, .int .i64 c, .int .i64 n, .int .i64 b, .int .i64 r, .int .i64 f, .int .i64 g]] w fun e w' => e = .returned (.int .i64 (-1)) ∧ Below w.heap.size w w' := by
  obtain ⟨p1, p2⟩ := hp
  obtain ⟨c1, c2⟩ := hc
  obtain ⟨n1, n2⟩ := hn
  obtain ⟨b1, b2⟩ := hb
  obtain ⟨r1, r2⟩ := hr
  obtain ⟨f1, f2⟩ := hf
  obtain ⟨g1, g2⟩ := hg
  have dp : decide (p < 1) = false := decide_eq_false (by omega)
  have up : decide (6 < p) = false := decide_eq_false (by omega)
  have dc : decide (c < 1) = false := decide_eq_false (by omega)
  have uc : decide (4 < c) = false := decide_eq_false (by omega)
  have dn : decide (n < 1) = false := decide_eq_false (by omega)
  have un : decide (3 < n) = false := decide_eq_false (by omega)
  have db : decide (b < 1) = false := decide_eq_false (by omega)
  have ub : decide (4 < b) = false := decide_eq_false (by omega)
  have dr : decide (r < 0) = false := decide_eq_false (by omega)
  have ur : decide (4 < r) = false := decide_eq_false (by omega)
  have df : decide (f < 1) = false := decide_eq_false (by omega)
  have uf : decide (4 < f) = false := decide_eq_false (by omega)
  have dg : decide (g < 1) = false := decide_eq_false (by omega)
  have ug : decide (15 < g) = false := decide_eq_false (by omega)
  go_enter Try.func54, Try.ntmps54
  go_wp2_with fail
  refine wp_loop_rounds 8 ?_
  rw [rounds_succ]
  go_wp2_with fail
  go_quiet (fail)
  go_wp2_with fail
  rw [rounds_succ]
  go_wp2_with fail
  go_quiet (fail)
  go_wp2_with fail
  rw [rounds_succ]
  go_wp2_with fail
  go_quiet (fail)
  go_wp2_with fail
  rw [rounds_succ]
  go_wp2_with fail
  go_quiet (fail)
  go_wp2_with fail
  rw [rounds_succ]
  go_wp2_with fail
  go_quiet (fail)
  go_wp2_with fail
  rw [rounds_succ]
  go_wp2_with fail
  go_quiet (fail)
  go_wp2_with fail
  rw [rounds_succ]
  go_wp2_with fail
  go_quiet (fail)
  go_wp2_with fail
  rw [rounds_succ]
  go_wp2
  go_ret
  exact ⟨rfl, by (repeat refine below_drewN0 ?_ _); go_grown⟩
set_option maxRecDepth 100000 in
set_option maxHeartbeats 4000000 in
theorem check_low_0 (p c n b r f g : Int) (w : World) (hh : p < 1) : Calls Try.prog 54 #[.agg #[.int .i64 p, .int .i64 c, .int .i64 n, .int .i64 b, .int .i64 r, .int .i64 f, .int .i64 g]] w fun e w' => e = .returned (.int .i64 0) ∧ Below w.heap.size w w' := by
  have e1 : decide (p < 1) = true := decide_eq_true hh
  go_enter Try.func54, Try.ntmps54
  go_wp2_with fail
  refine wp_loop_rounds 8 ?_
  rw [rounds_succ]
  go_wp2_with fail
  go_quiet (fail)
  go_wp2
  go_ret
  exact ⟨rfl, by (repeat refine below_drewN0 ?_ _); go_grown⟩
set_option maxRecDepth 100000 in
set_option maxHeartbeats 4000000 in
theorem check_high_0 (p c n b r f g : Int) (w : World) (hh : 6 < p) : Calls Try.prog 54 #[.agg #[.int .i64 p, .int .i64 c, .int .i64 n, .int .i64 b, .int .i64 r, .int .i64 f, .int .i64 g]] w fun e w' => e = .returned (.int .i64 0) ∧ Below w.heap.size w w' := by
  have e0 : decide (p < 1) = false := decide_eq_false (by omega)
  have e1 : decide (6 < p) = true := decide_eq_true hh
  go_enter Try.func54, Try.ntmps54
  go_wp2_with fail
  refine wp_loop_rounds 8 ?_
  rw [rounds_succ]
  go_wp2_with fail
  go_quiet (fail)
  go_wp2
  go_ret
  exact ⟨rfl, by (repeat refine below_drewN0 ?_ _); go_grown⟩
set_option maxRecDepth 100000 in
set_option maxHeartbeats 4000000 in
theorem check_low_1 (p c n b r f g : Int) (w : World) (hp : 1 ≤ p ∧ p ≤ 6) (hh : c < 1) : Calls Try.prog 54 #[.agg #[.int .i64 p, .int .i64 c, .int .i64 n, .int .i64 b, .int .i64 r, .int .i64 f, .int .i64 g]] w fun e w' => e = .returned (.int .i64 1) ∧ Below w.heap.size w w' := by
  obtain ⟨p1', p2'⟩ := hp
  have dp : decide (p < 1) = false := decide_eq_false (by omega)
  have up : decide (6 < p) = false := decide_eq_false (by omega)
  have e1 : decide (c < 1) = true := decide_eq_true hh
  go_enter Try.func54, Try.ntmps54
  go_wp2_with fail
  refine wp_loop_rounds 8 ?_
  rw [rounds_succ]
  go_wp2_with fail
  go_quiet (fail)
  go_wp2_with fail
  rw [rounds_succ]
  go_wp2_with fail
  go_quiet (fail)
  go_wp2
  go_ret
  exact ⟨rfl, by (repeat refine below_drewN0 ?_ _); go_grown⟩
set_option maxRecDepth 100000 in
set_option maxHeartbeats 4000000 in
theorem check_high_1 (p c n b r f g : Int) (w : World) (hp : 1 ≤ p ∧ p ≤ 6) (hh : 4 < c) : Calls Try.prog 54 #[.agg #[.int .i64 p, .int .i64 c, .int .i64 n, .int .i64 b, .int .i64 r, .int .i64 f, .int .i64 g]] w fun e w' => e = .returned (.int .i64 1) ∧ Below w.heap.size w w' := by
  obtain ⟨p1', p2'⟩ := hp
  have dp : decide (p < 1) = false := decide_eq_false (by omega)
  have up : decide (6 < p) = false := decide_eq_false (by omega)
  have e0 : decide (c < 1) = false := decide_eq_false (by omega)
  have e1 : decide (4 < c) = true := decide_eq_true hh
  go_enter Try.func54, Try.ntmps54
  go_wp2_with fail
  refine wp_loop_rounds 8 ?_
  rw [rounds_succ]
  go_wp2_with fail
  go_quiet (fail)
  go_wp2_with fail
  rw [rounds_succ]
  go_wp2_with fail
  go_quiet (fail)
  go_wp2
  go_ret
  exact ⟨rfl, by (repeat refine below_drewN0 ?_ _); go_grown⟩
set_option maxRecDepth 100000 in
set_option maxHeartbeats 4000000 in
theorem check_low_2 (p c n b r f g : Int) (w : World) (hp : 1 ≤ p ∧ p ≤ 6) (hc : 1 ≤ c ∧ c ≤ 4) (hh : n < 1) : Calls Try.prog 54 #[.agg #[.int .i64 p, .int .i64 c, .int .i64 n, .int .i64 b, .int .i64 r, .int .i64 f, .int .i64 g]] w fun e w' => e = .returned (.int .i64 2) ∧ Below w.heap.size w w' := by
  obtain ⟨p1', p2'⟩ := hp
  obtain ⟨c1', c2'⟩ := hc
  have dp : decide (p < 1) = false := decide_eq_false (by omega)
  have up : decide (6 < p) = false := decide_eq_false (by omega)
  have dc : decide (c < 1) = false := decide_eq_false (by omega)
  have uc : decide (4 < c) = false := decide_eq_false (by omega)
  have e1 : decide (n < 1) = true := decide_eq_true hh
  go_enter Try.func54, Try.ntmps54
  go_wp2_with fail
  refine wp_loop_rounds 8 ?_
  rw [rounds_succ]
  go_wp2_with fail
  go_quiet (fail)
  go_wp2_with fail
  rw [rounds_succ]
  go_wp2_with fail
  go_quiet (fail)
  go_wp2_with fail
  rw [rounds_succ]
  go_wp2_with fail
  go_quiet (fail)
  go_wp2
  go_ret
  exact ⟨rfl, by (repeat refine below_drewN0 ?_ _); go_grown⟩
set_option maxRecDepth 100000 in
set_option maxHeartbeats 4000000 in
theorem check_high_2 (p c n b r f g : Int) (w : World) (hp : 1 ≤ p ∧ p ≤ 6) (hc : 1 ≤ c ∧ c ≤ 4) (hh : 3 < n) : Calls Try.prog 54 #[.agg #[.int .i64 p, .int .i64 c, .int .i64 n, .int .i64 b, .int .i64 r, .int .i64 f, .int .i64 g]] w fun e w' => e = .returned (.int .i64 2) ∧ Below w.heap.size w w' := by
  obtain ⟨p1', p2'⟩ := hp
  obtain ⟨c1', c2'⟩ := hc
  have dp : decide (p < 1) = false := decide_eq_false (by omega)
  have up : decide (6 < p) = false := decide_eq_false (by omega)
  have dc : decide (c < 1) = false := decide_eq_false (by omega)
  have uc : decide (4 < c) = false := decide_eq_false (by omega)
  have e0 : decide (n < 1) = false := decide_eq_false (by omega)
  have e1 : decide (3 < n) = true := decide_eq_true hh
  go_enter Try.func54, Try.ntmps54
  go_wp2_with fail
  refine wp_loop_rounds 8 ?_
  rw [rounds_succ]
  go_wp2_with fail
  go_quiet (fail)
  go_wp2_with fail
  rw [rounds_succ]
  go_wp2_with fail
  go_quiet (fail)
  go_wp2_with fail
  rw [rounds_succ]
  go_wp2_with fail
  go_quiet (fail)
  go_wp2
  go_ret
  exact ⟨rfl, by (repeat refine below_drewN0 ?_ _); go_grown⟩
set_option maxRecDepth 100000 in
set_option maxHeartbeats 4000000 in
theorem check_low_3 (p c n b r f g : Int) (w : World) (hp : 1 ≤ p ∧ p ≤ 6) (hc : 1 ≤ c ∧ c ≤ 4) (hn : 1 ≤ n ∧ n ≤ 3) (hh : b < 1) : Calls Try.prog 54 #[.agg #[.int .i64 p, .int .i64 c, .int .i64 n, .int .i64 b, .int .i64 r, .int .i64 f, .int .i64 g]] w fun e w' => e = .returned (.int .i64 3) ∧ Below w.heap.size w w' := by
  obtain ⟨p1', p2'⟩ := hp
  obtain ⟨c1', c2'⟩ := hc
  obtain ⟨n1', n2'⟩ := hn
  have dp : decide (p < 1) = false := decide_eq_false (by omega)
  have up : decide (6 < p) = false := decide_eq_false (by omega)
  have dc : decide (c < 1) = false := decide_eq_false (by omega)
  have uc : decide (4 < c) = false := decide_eq_false (by omega)
  have dn : decide (n < 1) = false := decide_eq_false (by omega)
  have un : decide (3 < n) = false := decide_eq_false (by omega)
  have e1 : decide (b < 1) = true := decide_eq_true hh
  go_enter Try.func54, Try.ntmps54
  go_wp2_with fail
  refine wp_loop_rounds 8 ?_
  rw [rounds_succ]
  go_wp2_with fail
  go_quiet (fail)
  go_wp2_with fail
  rw [rounds_succ]
  go_wp2_with fail
  go_quiet (fail)
  go_wp2_with fail
  rw [rounds_succ]
  go_wp2_with fail
  go_quiet (fail)
  go_wp2_with fail
  rw [rounds_succ]
  go_wp2_with fail
  go_quiet (fail)
  go_wp2
  go_ret
  exact ⟨rfl, by (repeat refine below_drewN0 ?_ _); go_grown⟩
set_option maxRecDepth 100000 in
set_option maxHeartbeats 4000000 in
theorem check_high_3 (p c n b r f g : Int) (w : World) (hp : 1 ≤ p ∧ p ≤ 6) (hc : 1 ≤ c ∧ c ≤ 4) (hn : 1 ≤ n ∧ n ≤ 3) (hh : 4 < b) : Calls Try.prog 54 #[.agg #[.int .i64 p, .int .i64 c, .int .i64 n, .int .i64 b, .int .i64 r, .int .i64 f, .int .i64 g]] w fun e w' => e = .returned (.int .i64 3) ∧ Below w.heap.size w w' := by
  obtain ⟨p1', p2'⟩ := hp
  obtain ⟨c1', c2'⟩ := hc
  obtain ⟨n1', n2'⟩ := hn
  have dp : decide (p < 1) = false := decide_eq_false (by omega)
  have up : decide (6 < p) = false := decide_eq_false (by omega)
  have dc : decide (c < 1) = false := decide_eq_false (by omega)
  have uc : decide (4 < c) = false := decide_eq_false (by omega)
  have dn : decide (n < 1) = false := decide_eq_false (by omega)
  have un : decide (3 < n) = false := decide_eq_false (by omega)
  have e0 : decide (b < 1) = false := decide_eq_false (by omega)
  have e1 : decide (4 < b) = true := decide_eq_true hh
  go_enter Try.func54, Try.ntmps54
  go_wp2_with fail
  refine wp_loop_rounds 8 ?_
  rw [rounds_succ]
  go_wp2_with fail
  go_quiet (fail)
  go_wp2_with fail
  rw [rounds_succ]
  go_wp2_with fail
  go_quiet (fail)
  go_wp2_with fail
  rw [rounds_succ]
  go_wp2_with fail
  go_quiet (fail)
  go_wp2_with fail
  rw [rounds_succ]
  go_wp2_with fail
  go_quiet (fail)
  go_wp2
  go_ret
  exact ⟨rfl, by (repeat refine below_drewN0 ?_ _); go_grown⟩
set_option maxRecDepth 100000 in
set_option maxHeartbeats 4000000 in
theorem check_low_4 (p c n b r f g : Int) (w : World) (hp : 1 ≤ p ∧ p ≤ 6) (hc : 1 ≤ c ∧ c ≤ 4) (hn : 1 ≤ n ∧ n ≤ 3) (hb : 1 ≤ b ∧ b ≤ 4) (hh : r < 0) : Calls Try.prog 54 #[.agg #[.int .i64 p, .int .i64 c, .int .i64 n, .int .i64 b, .int .i64 r, .int .i64 f, .int .i64 g]] w fun e w' => e = .returned (.int .i64 4) ∧ Below w.heap.size w w' := by
  obtain ⟨p1', p2'⟩ := hp
  obtain ⟨c1', c2'⟩ := hc
  obtain ⟨n1', n2'⟩ := hn
  obtain ⟨b1', b2'⟩ := hb
  have dp : decide (p < 1) = false := decide_eq_false (by omega)
  have up : decide (6 < p) = false := decide_eq_false (by omega)
  have dc : decide (c < 1) = false := decide_eq_false (by omega)
  have uc : decide (4 < c) = false := decide_eq_false (by omega)
  have dn : decide (n < 1) = false := decide_eq_false (by omega)
  have un : decide (3 < n) = false := decide_eq_false (by omega)
  have db : decide (b < 1) = false := decide_eq_false (by omega)
  have ub : decide (4 < b) = false := decide_eq_false (by omega)
  have e1 : decide (r < 0) = true := decide_eq_true hh
  go_enter Try.func54, Try.ntmps54
  go_wp2_with fail
  refine wp_loop_rounds 8 ?_
  rw [rounds_succ]
  go_wp2_with fail
  go_quiet (fail)
  go_wp2_with fail
  rw [rounds_succ]
  go_wp2_with fail
  go_quiet (fail)
  go_wp2_with fail
  rw [rounds_succ]
  go_wp2_with fail
  go_quiet (fail)
  go_wp2_with fail
  rw [rounds_succ]
  go_wp2_with fail
  go_quiet (fail)
  go_wp2_with fail
  rw [rounds_succ]
  go_wp2_with fail
  go_quiet (fail)
  go_wp2
  go_ret
  exact ⟨rfl, by (repeat refine below_drewN0 ?_ _); go_grown⟩
set_option maxRecDepth 100000 in
set_option maxHeartbeats 4000000 in
theorem check_high_4 (p c n b r f g : Int) (w : World) (hp : 1 ≤ p ∧ p ≤ 6) (hc : 1 ≤ c ∧ c ≤ 4) (hn : 1 ≤ n ∧ n ≤ 3) (hb : 1 ≤ b ∧ b ≤ 4) (hh : 4 < r) : Calls Try.prog 54 #[.agg #[.int .i64 p, .int .i64 c, .int .i64 n, .int .i64 b, .int .i64 r, .int .i64 f, .int .i64 g]] w fun e w' => e = .returned (.int .i64 4) ∧ Below w.heap.size w w' := by
  obtain ⟨p1', p2'⟩ := hp
  obtain ⟨c1', c2'⟩ := hc
  obtain ⟨n1', n2'⟩ := hn
  obtain ⟨b1', b2'⟩ := hb
  have dp : decide (p < 1) = false := decide_eq_false (by omega)
  have up : decide (6 < p) = false := decide_eq_false (by omega)
  have dc : decide (c < 1) = false := decide_eq_false (by omega)
  have uc : decide (4 < c) = false := decide_eq_false (by omega)
  have dn : decide (n < 1) = false := decide_eq_false (by omega)
  have un : decide (3 < n) = false := decide_eq_false (by omega)
  have db : decide (b < 1) = false := decide_eq_false (by omega)
  have ub : decide (4 < b) = false := decide_eq_false (by omega)
  have e0 : decide (r < 0) = false := decide_eq_false (by omega)
  have e1 : decide (4 < r) = true := decide_eq_true hh
  go_enter Try.func54, Try.ntmps54
  go_wp2_with fail
  refine wp_loop_rounds 8 ?_
  rw [rounds_succ]
  go_wp2_with fail
  go_quiet (fail)
  go_wp2_with fail
  rw [rounds_succ]
  go_wp2_with fail
  go_quiet (fail)
  go_wp2_with fail
  rw [rounds_succ]
  go_wp2_with fail
  go_quiet (fail)
  go_wp2_with fail
  rw [rounds_succ]
  go_wp2_with fail
  go_quiet (fail)
  go_wp2_with fail
  rw [rounds_succ]
  go_wp2_with fail
  go_quiet (fail)
  go_wp2
  go_ret
  exact ⟨rfl, by (repeat refine below_drewN0 ?_ _); go_grown⟩
set_option maxRecDepth 100000 in
set_option maxHeartbeats 4000000 in
theorem check_low_5 (p c n b r f g : Int) (w : World) (hp : 1 ≤ p ∧ p ≤ 6) (hc : 1 ≤ c ∧ c ≤ 4) (hn : 1 ≤ n ∧ n ≤ 3) (hb : 1 ≤ b ∧ b ≤ 4) (hr : 0 ≤ r ∧ r ≤ 4) (hh : f < 1) : Calls Try.prog 54 #[.agg #[.int .i64 p, .int .i64 c, .int .i64 n, .int .i64 b, .int .i64 r, .int .i64 f, .int .i64 g]] w fun e w' => e = .returned (.int .i64 5) ∧ Below w.heap.size w w' := by
  obtain ⟨p1', p2'⟩ := hp
  obtain ⟨c1', c2'⟩ := hc
  obtain ⟨n1', n2'⟩ := hn
  obtain ⟨b1', b2'⟩ := hb
  obtain ⟨r1', r2'⟩ := hr
  have dp : decide (p < 1) = false := decide_eq_false (by omega)
  have up : decide (6 < p) = false := decide_eq_false (by omega)
  have dc : decide (c < 1) = false := decide_eq_false (by omega)
  have uc : decide (4 < c) = false := decide_eq_false (by omega)
  have dn : decide (n < 1) = false := decide_eq_false (by omega)
  have un : decide (3 < n) = false := decide_eq_false (by omega)
  have db : decide (b < 1) = false := decide_eq_false (by omega)
  have ub : decide (4 < b) = false := decide_eq_false (by omega)
  have dr : decide (r < 0) = false := decide_eq_false (by omega)
  have ur : decide (4 < r) = false := decide_eq_false (by omega)
  have e1 : decide (f < 1) = true := decide_eq_true hh
  go_enter Try.func54, Try.ntmps54
  go_wp2_with fail
  refine wp_loop_rounds 8 ?_
  rw [rounds_succ]
  go_wp2_with fail
  go_quiet (fail)
  go_wp2_with fail
  rw [rounds_succ]
  go_wp2_with fail
  go_quiet (fail)
  go_wp2_with fail
  rw [rounds_succ]
  go_wp2_with fail
  go_quiet (fail)
  go_wp2_with fail
  rw [rounds_succ]
  go_wp2_with fail
  go_quiet (fail)
  go_wp2_with fail
  rw [rounds_succ]
  go_wp2_with fail
  go_quiet (fail)
  go_wp2_with fail
  rw [rounds_succ]
  go_wp2_with fail
  go_quiet (fail)
  go_wp2
  go_ret
  exact ⟨rfl, by (repeat refine below_drewN0 ?_ _); go_grown⟩
set_option maxRecDepth 100000 in
set_option maxHeartbeats 4000000 in
theorem check_high_5 (p c n b r f g : Int) (w : World) (hp : 1 ≤ p ∧ p ≤ 6) (hc : 1 ≤ c ∧ c ≤ 4) (hn : 1 ≤ n ∧ n ≤ 3) (hb : 1 ≤ b ∧ b ≤ 4) (hr : 0 ≤ r ∧ r ≤ 4) (hh : 4 < f) : Calls Try.prog 54 #[.agg #[.int .i64 p, .int .i64 c, .int .i64 n, .int .i64 b, .int .i64 r, .int .i64 f, .int .i64 g]] w fun e w' => e = .returned (.int .i64 5) ∧ Below w.heap.size w w' := by
  obtain ⟨p1', p2'⟩ := hp
  obtain ⟨c1', c2'⟩ := hc
  obtain ⟨n1', n2'⟩ := hn
  obtain ⟨b1', b2'⟩ := hb
  obtain ⟨r1', r2'⟩ := hr
  have dp : decide (p < 1) = false := decide_eq_false (by omega)
  have up : decide (6 < p) = false := decide_eq_false (by omega)
  have dc : decide (c < 1) = false := decide_eq_false (by omega)
  have uc : decide (4 < c) = false := decide_eq_false (by omega)
  have dn : decide (n < 1) = false := decide_eq_false (by omega)
  have un : decide (3 < n) = false := decide_eq_false (by omega)
  have db : decide (b < 1) = false := decide_eq_false (by omega)
  have ub : decide (4 < b) = false := decide_eq_false (by omega)
  have dr : decide (r < 0) = false := decide_eq_false (by omega)
  have ur : decide (4 < r) = false := decide_eq_false (by omega)
  have e0 : decide (f < 1) = false := decide_eq_false (by omega)
  have e1 : decide (4 < f) = true := decide_eq_true hh
  go_enter Try.func54, Try.ntmps54
  go_wp2_with fail
  refine wp_loop_rounds 8 ?_
  rw [rounds_succ]
  go_wp2_with fail
  go_quiet (fail)
  go_wp2_with fail
  rw [rounds_succ]
  go_wp2_with fail
  go_quiet (fail)
  go_wp2_with fail
  rw [rounds_succ]
  go_wp2_with fail
  go_quiet (fail)
  go_wp2_with fail
  rw [rounds_succ]
  go_wp2_with fail
  go_quiet (fail)
  go_wp2_with fail
  rw [rounds_succ]
  go_wp2_with fail
  go_quiet (fail)
  go_wp2_with fail
  rw [rounds_succ]
  go_wp2_with fail
  go_quiet (fail)
  go_wp2
  go_ret
  exact ⟨rfl, by (repeat refine below_drewN0 ?_ _); go_grown⟩
set_option maxRecDepth 100000 in
set_option maxHeartbeats 4000000 in
theorem check_low_6 (p c n b r f g : Int) (w : World) (hp : 1 ≤ p ∧ p ≤ 6) (hc : 1 ≤ c ∧ c ≤ 4) (hn : 1 ≤ n ∧ n ≤ 3) (hb : 1 ≤ b ∧ b ≤ 4) (hr : 0 ≤ r ∧ r ≤ 4) (hf : 1 ≤ f ∧ f ≤ 4) (hh : g < 1) : Calls Try.prog 54 #[.agg #[.int .i64 p, .int .i64 c, .int .i64 n, .int .i64 b, .int .i64 r, .int .i64 f, .int .i64 g]] w fun e w' => e = .returned (.int .i64 6) ∧ Below w.heap.size w w' := by
  obtain ⟨p1', p2'⟩ := hp
  obtain ⟨c1', c2'⟩ := hc
  obtain ⟨n1', n2'⟩ := hn
  obtain ⟨b1', b2'⟩ := hb
  obtain ⟨r1', r2'⟩ := hr
  obtain ⟨f1', f2'⟩ := hf
  have dp : decide (p < 1) = false := decide_eq_false (by omega)
  have up : decide (6 < p) = false := decide_eq_false (by omega)
  have dc : decide (c < 1) = false := decide_eq_false (by omega)
  have uc : decide (4 < c) = false := decide_eq_false (by omega)
  have dn : decide (n < 1) = false := decide_eq_false (by omega)
  have un : decide (3 < n) = false := decide_eq_false (by omega)
  have db : decide (b < 1) = false := decide_eq_false (by omega)
  have ub : decide (4 < b) = false := decide_eq_false (by omega)
  have dr : decide (r < 0) = false := decide_eq_false (by omega)
  have ur : decide (4 < r) = false := decide_eq_false (by omega)
  have df : decide (f < 1) = false := decide_eq_false (by omega)
  have uf : decide (4 < f) = false := decide_eq_false (by omega)
  have e1 : decide (g < 1) = true := decide_eq_true hh
  go_enter Try.func54, Try.ntmps54
  go_wp2_with fail
  refine wp_loop_rounds 8 ?_
  rw [rounds_succ]
  go_wp2_with fail
  go_quiet (fail)
  go_wp2_with fail
  rw [rounds_succ]
  go_wp2_with fail
  go_quiet (fail)
  go_wp2_with fail
  rw [rounds_succ]
  go_wp2_with fail
  go_quiet (fail)
  go_wp2_with fail
  rw [rounds_succ]
  go_wp2_with fail
  go_quiet (fail)
  go_wp2_with fail
  rw [rounds_succ]
  go_wp2_with fail
  go_quiet (fail)
  go_wp2_with fail
  rw [rounds_succ]
  go_wp2_with fail
  go_quiet (fail)
  go_wp2_with fail
  rw [rounds_succ]
  go_wp2_with fail
  go_quiet (fail)
  go_wp2
  go_ret
  exact ⟨rfl, by (repeat refine below_drewN0 ?_ _); go_grown⟩
set_option maxRecDepth 100000 in
set_option maxHeartbeats 4000000 in
theorem check_high_6 (p c n b r f g : Int) (w : World) (hp : 1 ≤ p ∧ p ≤ 6) (hc : 1 ≤ c ∧ c ≤ 4) (hn : 1 ≤ n ∧ n ≤ 3) (hb : 1 ≤ b ∧ b ≤ 4) (hr : 0 ≤ r ∧ r ≤ 4) (hf : 1 ≤ f ∧ f ≤ 4) (hh : 15 < g) : Calls Try.prog 54 #[.agg #[.int .i64 p, .int .i64 c, .int .i64 n, .int .i64 b, .int .i64 r, .int .i64 f, .int .i64 g]] w fun e w' => e = .returned (.int .i64 6) ∧ Below w.heap.size w w' := by
  obtain ⟨p1', p2'⟩ := hp
  obtain ⟨c1', c2'⟩ := hc
  obtain ⟨n1', n2'⟩ := hn
  obtain ⟨b1', b2'⟩ := hb
  obtain ⟨r1', r2'⟩ := hr
  obtain ⟨f1', f2'⟩ := hf
  have dp : decide (p < 1) = false := decide_eq_false (by omega)
  have up : decide (6 < p) = false := decide_eq_false (by omega)
  have dc : decide (c < 1) = false := decide_eq_false (by omega)
  have uc : decide (4 < c) = false := decide_eq_false (by omega)
  have dn : decide (n < 1) = false := decide_eq_false (by omega)
  have un : decide (3 < n) = false := decide_eq_false (by omega)
  have db : decide (b < 1) = false := decide_eq_false (by omega)
  have ub : decide (4 < b) = false := decide_eq_false (by omega)
  have dr : decide (r < 0) = false := decide_eq_false (by omega)
  have ur : decide (4 < r) = false := decide_eq_false (by omega)
  have df : decide (f < 1) = false := decide_eq_false (by omega)
  have uf : decide (4 < f) = false := decide_eq_false (by omega)
  have e0 : decide (g < 1) = false := decide_eq_false (by omega)
  have e1 : decide (15 < g) = true := decide_eq_true hh
  go_enter Try.func54, Try.ntmps54
  go_wp2_with fail
  refine wp_loop_rounds 8 ?_
  rw [rounds_succ]
  go_wp2_with fail
  go_quiet (fail)
  go_wp2_with fail
  rw [rounds_succ]
  go_wp2_with fail
  go_quiet (fail)
  go_wp2_with fail
  rw [rounds_succ]
  go_wp2_with fail
  go_quiet (fail)
  go_wp2_with fail
  rw [rounds_succ]
  go_wp2_with fail
  go_quiet (fail)
  go_wp2_with fail
  rw [rounds_succ]
  go_wp2_with fail
  go_quiet (fail)
  go_wp2_with fail
  rw [rounds_succ]
  go_wp2_with fail
  go_quiet (fail)
  go_wp2_with fail
  rw [rounds_succ]
  go_wp2_with fail
  go_quiet (fail)
  go_wp2
  go_ret
  exact ⟨rfl, by (repeat refine below_drewN0 ?_ _); go_grown⟩
theorem check_bad (p c n b r f g : Int) (W : World) (h : ¬ ((1 ≤ p ∧ p ≤ 6) ∧ (1 ≤ c ∧ c ≤ 4) ∧ (1 ≤ n ∧ n ≤ 3) ∧ (1 ≤ b ∧ b ≤ 4) ∧ (0 ≤ r ∧ r ≤ 4) ∧ (1 ≤ f ∧ f ≤ 4) ∧ (1 ≤ g ∧ g ≤ 15))) : Calls Try.prog 54 #[.agg #[.int .i64 p, .int .i64 c, .int .i64 n, .int .i64 b, .int .i64 r, .int .i64 f, .int .i64 g]] W fun e w' => ∃ i : Nat, e = .returned (.int .i64 (i : Int)) ∧ Below W.heap.size W w' := by
  by_cases a0 : p < 1
  · exact (check_low_0 p c n b r f g W a0).mono fun e w' ⟨he, hb⟩ => ⟨0, he, hb⟩
  by_cases z0 : 6 < p
  · exact (check_high_0 p c n b r f g W z0).mono fun e w' ⟨he, hb⟩ => ⟨0, he, hb⟩
  have r0 : 1 ≤ p ∧ p ≤ 6 := ⟨by omega, by omega⟩
  by_cases a1 : c < 1
  · exact (check_low_1 p c n b r f g W r0 a1).mono fun e w' ⟨he, hb⟩ => ⟨1, he, hb⟩
  by_cases z1 : 4 < c
  · exact (check_high_1 p c n b r f g W r0 z1).mono fun e w' ⟨he, hb⟩ => ⟨1, he, hb⟩
  have r1 : 1 ≤ c ∧ c ≤ 4 := ⟨by omega, by omega⟩
  by_cases a2 : n < 1
  · exact (check_low_2 p c n b r f g W r0 r1 a2).mono fun e w' ⟨he, hb⟩ => ⟨2, he, hb⟩
  by_cases z2 : 3 < n
  · exact (check_high_2 p c n b r f g W r0 r1 z2).mono fun e w' ⟨he, hb⟩ => ⟨2, he, hb⟩
  have r2 : 1 ≤ n ∧ n ≤ 3 := ⟨by omega, by omega⟩
  by_cases a3 : b < 1
  · exact (check_low_3 p c n b r f g W r0 r1 r2 a3).mono fun e w' ⟨he, hb⟩ => ⟨3, he, hb⟩
  by_cases z3 : 4 < b
  · exact (check_high_3 p c n b r f g W r0 r1 r2 z3).mono fun e w' ⟨he, hb⟩ => ⟨3, he, hb⟩
  have r3 : 1 ≤ b ∧ b ≤ 4 := ⟨by omega, by omega⟩
  by_cases a4 : r < 0
  · exact (check_low_4 p c n b r f g W r0 r1 r2 r3 a4).mono fun e w' ⟨he, hb⟩ => ⟨4, he, hb⟩
  by_cases z4 : 4 < r
  · exact (check_high_4 p c n b r f g W r0 r1 r2 r3 z4).mono fun e w' ⟨he, hb⟩ => ⟨4, he, hb⟩
  have r4 : 0 ≤ r ∧ r ≤ 4 := ⟨by omega, by omega⟩
  by_cases a5 : f < 1
  · exact (check_low_5 p c n b r f g W r0 r1 r2 r3 r4 a5).mono fun e w' ⟨he, hb⟩ => ⟨5, he, hb⟩
  by_cases z5 : 4 < f
  · exact (check_high_5 p c n b r f g W r0 r1 r2 r3 r4 z5).mono fun e w' ⟨he, hb⟩ => ⟨5, he, hb⟩
  have r5 : 1 ≤ f ∧ f ≤ 4 := ⟨by omega, by omega⟩
  by_cases a6 : g < 1
  · exact (check_low_6 p c n b r f g W r0 r1 r2 r3 r4 r5 a6).mono fun e w' ⟨he, hb⟩ => ⟨6, he, hb⟩
  by_cases z6 : 15 < g
  · exact (check_high_6 p c n b r f g W r0 r1 r2 r3 r4 r5 z6).mono fun e w' ⟨he, hb⟩ => ⟨6, he, hb⟩
  have r6 : 1 ≤ g ∧ g ≤ 15 := ⟨by omega, by omega⟩
  exact absurd ⟨r0, r1, r2, r3, r4, r5, r6⟩ h
end Go.Proofs.Ytmjkhefgpobinaa

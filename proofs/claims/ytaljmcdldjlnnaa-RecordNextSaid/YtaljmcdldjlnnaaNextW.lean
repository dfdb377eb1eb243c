/-
  The walk of RecordNext: for all cursors and records it returns true and only adds blocks to the world.
-/
import Derived.Test.YtaljmcdldjlnnaaRows
import Derived.WalkKit
import Derived.ProofKit
import Derived.OpenShut
import Derived.ShutString
import Derived.Below
import Derived.Outline
import Derived.WalkLawsBesides
import Derived.WalkSpells
import Derived.Handy
import Derived.Deep.QuietTactic
import Derived.BigQuiet
import Derived.RegionTactic
import Derived.ChangeAlike
import Derived.Lib.Hide
import Derived.Test.YtaljmcdldjlnnaaKit
import Derived.Test.YtaljmcdldjlnnaaRec
namespace Go.Proofs.Ytaljmcdldjlnnaa.recordNext
open Go.ChangeShapes Go.WideShapes Go.ChangeAt Go.RowKit

def RefPost (w : World) (k q p t c ge g n : Int) (e : Ending) (w' : World) : Prop :=
  e = .returned (.tuple #[.agg #[.int .i64 k, .int .i64 q, .int .i64 p, .int .i64 t, .int .i64 c, .int .i64 ge], .int .i64 g, .int .i64 n]) ∧ Below w.heap.size w w'

set_option maxHeartbeats 400000 in
theorem ref_fill (g n q p t c ge k2 q2 p2 t2 c2 ge2 : Int) (w : World) (hn : n < 4611686018427387904) (hn1 : -9223372036854775808 ≤ n) :
    Calls Try.prog 18 #[.int .i64 g, .int .i64 n, .agg #[.int .i64 1, .int .i64 q, .int .i64 p, .int .i64 t, .int .i64 c, .int .i64 ge], .agg #[.int .i64 k2, .int .i64 q2, .int .i64 p2, .int .i64 t2, .int .i64 c2, .int .i64 ge2]] w (RefPost w 1 q p t 0 0 g (n + 1)) := by
  go_enter Try.func18, Try.ntmps18
  go_wp2
  refine bodyPost_ret (by simp [results, Try.results18, go_sem]; try rfl) rfl ⟨rfl, ?_⟩
  go_grown
set_option maxHeartbeats 400000 in
theorem ref_end (g n k q p t c ge k2 q2 t2 c2 ge2 : Int) (w : World) (hk : k ≠ 1) (h1 : 2 ≤ k2) (h2 : k2 ≤ 5) (hn : g < 4611686018427387904) (hn1 : -9223372036854775808 ≤ g) :
    Calls Try.prog 18 #[.int .i64 g, .int .i64 n, .agg #[.int .i64 k, .int .i64 q, .int .i64 p, .int .i64 t, .int .i64 c, .int .i64 ge], .agg #[.int .i64 k2, .int .i64 q2, .int .i64 n, .int .i64 t2, .int .i64 c2, .int .i64 ge2]] w (RefPost w k2 q2 n t2 c2 ge2 (g + 1) 0) := by
  have hk1 : (k == 1) = false := by simpa using hk
  have hnn : (n == n) = true := by simp
  go_enter Try.func18, Try.ntmps18
  go_wp2
  refine bodyPost_ret (by simp [results, Try.results18, go_sem]; try rfl) rfl ⟨rfl, ?_⟩
  go_grown
set_option maxHeartbeats 400000 in
theorem ref_wait (g n k q p t c ge k2 q2 p2 t2 c2 ge2 : Int) (w : World) (hk : k ≠ 1) (h1 : 2 ≤ k2) (h2 : k2 ≤ 5) (hp : p2 ≠ n) :
    Calls Try.prog 18 #[.int .i64 g, .int .i64 n, .agg #[.int .i64 k, .int .i64 q, .int .i64 p, .int .i64 t, .int .i64 c, .int .i64 ge], .agg #[.int .i64 k2, .int .i64 q2, .int .i64 p2, .int .i64 t2, .int .i64 c2, .int .i64 ge2]] w (RefPost w 0 0 0 0 0 0 g n) := by
  have hk1 : (k == 1) = false := by simpa using hk
  have hnn : (p2 == n) = false := by simpa using hp
  go_enter Try.func18, Try.ntmps18
  go_wp2
  refine bodyPost_ret (by simp [results, Try.results18, go_sem]; try rfl) rfl ⟨rfl, ?_⟩
  go_grown
set_option maxHeartbeats 400000 in
theorem ref_low (g n k q p t c ge k2 q2 p2 t2 c2 ge2 : Int) (w : World) (hk : k ≠ 1) (h1 : k2 < 2) :
    Calls Try.prog 18 #[.int .i64 g, .int .i64 n, .agg #[.int .i64 k, .int .i64 q, .int .i64 p, .int .i64 t, .int .i64 c, .int .i64 ge], .agg #[.int .i64 k2, .int .i64 q2, .int .i64 p2, .int .i64 t2, .int .i64 c2, .int .i64 ge2]] w (RefPost w 0 0 0 0 0 0 g n) := by
  have hk1 : (k == 1) = false := by simpa using hk
  go_enter Try.func18, Try.ntmps18
  go_wp2
  refine bodyPost_ret (by simp [results, Try.results18, go_sem]; try rfl) rfl ⟨rfl, ?_⟩
  go_grown
set_option maxHeartbeats 400000 in
theorem ref_high (g n k q p t c ge k2 q2 p2 t2 c2 ge2 : Int) (w : World) (hk : k ≠ 1) (h1 : 5 < k2) :
    Calls Try.prog 18 #[.int .i64 g, .int .i64 n, .agg #[.int .i64 k, .int .i64 q, .int .i64 p, .int .i64 t, .int .i64 c, .int .i64 ge], .agg #[.int .i64 k2, .int .i64 q2, .int .i64 p2, .int .i64 t2, .int .i64 c2, .int .i64 ge2]] w (RefPost w 0 0 0 0 0 0 g n) := by
  have hk1 : (k == 1) = false := by simpa using hk
  go_enter Try.func18, Try.ntmps18
  go_wp2
  refine bodyPost_ret (by simp [results, Try.results18, go_sem]; try rfl) rfl ⟨rfl, ?_⟩
  go_grown

set_option maxHeartbeats 1000000 in
/-- Where the program and the document answer alike, the law is true. -/
theorem alike (g n k q p t c ge k2 q2 p2 t2 c2 ge2 rk rq rp rt rc rg g' n' : Int) (w : World) (b1 : g ≤ 1099511627776) (b2 : n ≤ 1099511627776)
    (hN : ∀ W, Calls Try.prog 17 #[.agg #[.int .i64 g, .int .i64 n], .agg #[.int .i64 k, .int .i64 q, .int .i64 p, .int .i64 t, .int .i64 c, .int .i64 ge], .agg #[.int .i64 k2, .int .i64 q2, .int .i64 p2, .int .i64 t2, .int .i64 c2, .int .i64 ge2]] W (NextPost W rk rq rp rt rc rg g' n'))
    (hR : ∀ W, Calls Try.prog 18 #[.int .i64 g, .int .i64 n, .agg #[.int .i64 k, .int .i64 q, .int .i64 p, .int .i64 t, .int .i64 c, .int .i64 ge], .agg #[.int .i64 k2, .int .i64 q2, .int .i64 p2, .int .i64 t2, .int .i64 c2, .int .i64 ge2]] W (RefPost W rk rq rp rt rc rg g' n')) :
    Calls Try.prog 6 #[.int .i64 g, .int .i64 n, .agg #[.int .i64 k, .int .i64 q, .int .i64 p, .int .i64 t, .int .i64 c, .int .i64 ge], .agg #[.int .i64 k2, .int .i64 q2, .int .i64 p2, .int .i64 t2, .int .i64 c2, .int .i64 ge2]] w fun e w' => e = .returned (.bool true) ∧ Below w.heap.size w w' := by
  have HN := Lib.hid hN
  have HR := Lib.hid hR
  clear hN hR
  go_enter Try.func6, Try.ntmps6
  go_wp2_with fail
  refine (HN.out _).mono ?_
  rintro e w1 ⟨rfl, hb1⟩
  obtain ⟨hc1, hf1⟩ := bcell hb1
  have hz1 := hb1.size
  have hB1 : Below w.heap.size w w1 := Below.step (by go_grown) hb1
  try simp only [World.size_alloc, World.size_setCell, World.size_drew] at hz1 hc1 hf1
  have hy1_0 : w.heap.size < w1.heap.size := by omega
  have hy1_1 : w.heap.size + 1 < w1.heap.size := by omega
  go_wp2_with fail
  refine (HR.out _).mono ?_
  rintro e w2 ⟨rfl, hb2⟩
  obtain ⟨hc2, hf2⟩ := bcell hb2
  have hz2 := hb2.size
  have hB2 : Below w.heap.size w w2 := Below.step (by go_grown) hb2
  try simp only [World.size_alloc, World.size_setCell, World.size_drew] at hz2 hc2 hf2
  have hy2_0 : w.heap.size < w2.heap.size := by omega
  have hy2_1 : w.heap.size + 1 < w2.heap.size := by omega
  have hy2_2 : w1.heap.size < w2.heap.size := by omega
  have hy2_3 : w1.heap.size + 1 < w2.heap.size := by omega
  have hx2_0 : w.heap.size < w1.heap.size + 1 + 1 := by omega
  have hx2_1 : w.heap.size + 1 < w1.heap.size + 1 + 1 := by omega
  go_wp2_with fail
  refine (awake16 _).mono ?_
  rintro e w3 ⟨rfl, hb3⟩
  obtain ⟨hc3, hf3⟩ := bcell hb3
  have hz3 := hb3.size
  have hB3 : Below w.heap.size w w3 := Below.step (by go_grown) hb3
  try simp only [World.size_alloc, World.size_setCell, World.size_drew] at hz3 hc3 hf3
  have hy3_0 : w.heap.size < w3.heap.size := by omega
  have hy3_1 : w.heap.size + 1 < w3.heap.size := by omega
  have hy3_2 : w1.heap.size < w3.heap.size := by omega
  have hy3_3 : w1.heap.size + 1 < w3.heap.size := by omega
  have hy3_4 : w2.heap.size < w3.heap.size := by omega
  have hx3_0 : w.heap.size < w2.heap.size + 1 := by omega
  have hx3_1 : w.heap.size + 1 < w2.heap.size + 1 := by omega
  have hx3_2 : w1.heap.size < w2.heap.size + 1 := by omega
  have hx3_3 : w1.heap.size + 1 < w2.heap.size + 1 := by omega
  go_wp2
  go_ret
  exact ⟨rfl, by go_grown⟩

set_option maxHeartbeats 400000 in
theorem far_gen (g n k q p t c ge k2 q2 p2 t2 c2 ge2 : Int) (w : World) (hg : 1099511627776 < g) :
    Calls Try.prog 6 #[.int .i64 g, .int .i64 n, .agg #[.int .i64 k, .int .i64 q, .int .i64 p, .int .i64 t, .int .i64 c, .int .i64 ge], .agg #[.int .i64 k2, .int .i64 q2, .int .i64 p2, .int .i64 t2, .int .i64 c2, .int .i64 ge2]] w fun e w' => e = .returned (.bool true) ∧ Below w.heap.size w w' := by
  go_enter Try.func6, Try.ntmps6
  go_wp2_with fail
  refine (awake16 _).mono ?_
  rintro e w1 ⟨rfl, hb1⟩
  obtain ⟨hc1, hf1⟩ := bcell hb1
  have hz1 := hb1.size
  have hB1 : Below w.heap.size w w1 := Below.step (by go_grown) hb1
  try simp only [World.size_alloc, World.size_setCell, World.size_drew] at hz1 hc1 hf1
  go_wp2
  go_ret
  exact ⟨rfl, by go_grown⟩
set_option maxHeartbeats 400000 in
theorem far_n (g n k q p t c ge k2 q2 p2 t2 c2 ge2 : Int) (w : World) (hg : g ≤ 1099511627776) (hn : 1099511627776 < n) :
    Calls Try.prog 6 #[.int .i64 g, .int .i64 n, .agg #[.int .i64 k, .int .i64 q, .int .i64 p, .int .i64 t, .int .i64 c, .int .i64 ge], .agg #[.int .i64 k2, .int .i64 q2, .int .i64 p2, .int .i64 t2, .int .i64 c2, .int .i64 ge2]] w fun e w' => e = .returned (.bool true) ∧ Below w.heap.size w w' := by
  go_enter Try.func6, Try.ntmps6
  go_wp2_with fail
  refine (awake16 _).mono ?_
  rintro e w1 ⟨rfl, hb1⟩
  obtain ⟨hc1, hf1⟩ := bcell hb1
  have hz1 := hb1.size
  have hB1 : Below w.heap.size w w1 := Below.step (by go_grown) hb1
  try simp only [World.size_alloc, World.size_setCell, World.size_drew] at hz1 hc1 hf1
  go_wp2
  go_ret
  exact ⟨rfl, by go_grown⟩

theorem walk (a0 : Int) (a1 : Int) (a2_0 : Int) (a2_1 : Int) (a2_2 : Int) (a2_3 : Int) (a2_4 : Int) (a2_5 : Int) (a3_0 : Int) (a3_1 : Int) (a3_2 : Int) (a3_3 : Int) (a3_4 : Int) (a3_5 : Int) (w : World) (w0 : (Lit.int .i64 a0).wf = true) (w1 : (Lit.int .i64 a1).wf = true) (w2_0 : (Lit.int .i64 a2_0).wf = true) (w2_1 : (Lit.int .i64 a2_1).wf = true) (w2_2 : (Lit.int .i64 a2_2).wf = true) (w2_3 : (Lit.int .i64 a2_3).wf = true) (w2_4 : (Lit.int .i64 a2_4).wf = true) (w2_5 : (Lit.int .i64 a2_5).wf = true) (w3_0 : (Lit.int .i64 a3_0).wf = true) (w3_1 : (Lit.int .i64 a3_1).wf = true) (w3_2 : (Lit.int .i64 a3_2).wf = true) (w3_3 : (Lit.int .i64 a3_3).wf = true) (w3_4 : (Lit.int .i64 a3_4).wf = true) (w3_5 : (Lit.int .i64 a3_5).wf = true) :
    Calls Try.prog 6 #[.int .i64 a0, .int .i64 a1, .agg #[.int .i64 a2_0, .int .i64 a2_1, .int .i64 a2_2, .int .i64 a2_3, .int .i64 a2_4, .int .i64 a2_5], .agg #[.int .i64 a3_0, .int .i64 a3_1, .int .i64 a3_2, .int .i64 a3_3, .int .i64 a3_4, .int .i64 a3_5]] w fun e w' => e = .returned (.bool true) ∧ Below w.heap.size w w' := by
  have c0 := (bounds_i64 w0).1
  have c1 := (bounds_i64 w1).1
  by_cases hg : 1099511627776 < a0
  · exact far_gen _ _ _ _ _ _ _ _ _ _ _ _ _ _ w hg
  by_cases hn : 1099511627776 < a1
  · exact far_n _ _ _ _ _ _ _ _ _ _ _ _ _ _ w (by omega) hn
  by_cases hk : a2_0 = 1
  · subst hk
    exact alike _ _ _ _ _ _ _ _ _ _ _ _ _ _ _ _ _ _ _ _ _ _ w (by omega) (by omega) (fun W => next_fill _ _ _ _ _ _ _ _ _ _ _ _ _ W (by omega) (by omega)) (fun W => ref_fill _ _ _ _ _ _ _ _ _ _ _ _ _ W (by omega) (by omega))
  by_cases h1 : a3_0 < 2
  · exact alike _ _ _ _ _ _ _ _ _ _ _ _ _ _ _ _ _ _ _ _ _ _ w (by omega) (by omega) (fun W => next_low _ _ _ _ _ _ _ _ _ _ _ _ _ _ W hk h1) (fun W => ref_low _ _ _ _ _ _ _ _ _ _ _ _ _ _ W hk h1)
  by_cases h2 : 5 < a3_0
  · exact alike _ _ _ _ _ _ _ _ _ _ _ _ _ _ _ _ _ _ _ _ _ _ w (by omega) (by omega) (fun W => next_high _ _ _ _ _ _ _ _ _ _ _ _ _ _ W hk h2) (fun W => ref_high _ _ _ _ _ _ _ _ _ _ _ _ _ _ W hk h2)
  by_cases h3 : a3_2 = a1
  · subst h3
    exact alike _ _ _ _ _ _ _ _ _ _ _ _ _ _ _ _ _ _ _ _ _ _ w (by omega) (by omega) (fun W => next_end _ _ _ _ _ _ _ _ _ _ _ _ _ W hk (by omega) (by omega) (by omega) (by omega)) (fun W => ref_end _ _ _ _ _ _ _ _ _ _ _ _ _ W hk (by omega) (by omega) (by omega) (by omega))
  · exact alike _ _ _ _ _ _ _ _ _ _ _ _ _ _ _ _ _ _ _ _ _ _ w (by omega) (by omega) (fun W => next_wait _ _ _ _ _ _ _ _ _ _ _ _ _ _ W hk (by omega) (by omega) h3) (fun W => ref_wait _ _ _ _ _ _ _ _ _ _ _ _ _ _ W hk (by omega) (by omega) h3)
end Go.Proofs.Ytaljmcdldjlnnaa.recordNext

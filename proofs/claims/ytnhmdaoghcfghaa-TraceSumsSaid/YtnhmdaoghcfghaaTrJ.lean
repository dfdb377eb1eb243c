/-
  The abstract pool: owners, terms.
-/
import Derived.Test.YtnhmdaoghcfghaaRows
import Derived.Test.YtnhmdaoghcfghaaKit
import Derived.Test.YtnhmdaoghcfghaaApp
import Derived.Test.YtnhmdaoghcfghaaQuiet
import Derived.Test.YtnhmdaoghcfghaaTrM
import Derived.Test.YtnhmdaoghcfghaaTrS
import Derived.WalkKit
import Derived.ProofKit
import Derived.OpenShut
import Derived.ShutString
import Derived.Below
import Derived.Outline
import Derived.WalkLawsBesides
import Derived.WalkSpells
import Derived.Handy
import Derived.Deep.QuietTactic
import Derived.BigQuiet
import Derived.RegionTactic
import Derived.ChangeAlike
import Derived.Lib.Hide
import Derived.Laws.Rows
import Derived.Laws.Tables
import Derived.Laws.CopyOwn
import Derived.Laws.MakeOwn
import Derived.Laws.Entries
import Derived.Laws.OwnMore
import Derived.Deep.WholeRow
import Derived.Deep.LoopGhost
import Derived.Deep.AppendLies
import Derived.Deep.Draws
import Derived.Maps.AppendAt
import Derived.OwnWalk
import Derived.Deep.RegionHeld3
import Derived.Deep.Cut
import Derived.Deep.CutRange
import Derived.Deep.DeepCutAuto
import Derived.Deep.CutBlock
import Derived.Lib.SliceRun
import Derived.IntWalk
namespace Go.Proofs.Ytnhmdaoghcfghaa
open Go.ChangeShapes Go.WideShapes Go.ChangeAt Go.RowKit
def ow (p c x : Int) : Int := if 0 ≤ x ∧ x < p * c then x / c else -1
theorem mul24 {p c : Int} (hp : 1 ≤ p ∧ p ≤ 6) (hc : 1 ≤ c ∧ c ≤ 4) : 1 ≤ p * c ∧ p * c ≤ 24 := by
  obtain ⟨p0, p1⟩ := hp
  obtain ⟨c0, c1⟩ := hc
  exact ⟨by have := Int.mul_le_mul p0 c0 (by omega) (by omega); omega, by have := Int.mul_le_mul p1 c1 (by omega) (by omega); omega⟩
theorem all_r (p c n b r f g : Int) (w : World) (m : 1 ≤ p * c ∧ p * c ≤ 24) : Calls Try.prog 38 #[.agg #[.int .i64 p, .int .i64 c, .int .i64 n, .int .i64 b, .int .i64 r, .int .i64 f, .int .i64 g]] w fun e w' => e = .returned (.int .i64 (p * c)) ∧ Below w.heap.size w w' := by
  obtain ⟨m0, m1⟩ := m
  go_enter Try.func38, Try.ntmps38
  go_wp2_with fail
  go_ret
  exact ⟨rfl, by go_grown⟩
theorem within_y (x m : Int) (w : World) (h0 : 0 ≤ x) (h1 : x < m) : Calls Try.prog 37 #[.int .i64 x, .int .i64 m] w fun e w' => e = .returned (.bool true) ∧ Below w.heap.size w w' := by
  go_enter Try.func37, Try.ntmps37
  go_wp2_with fail
  go_ret
  exact ⟨rfl, Below.refl _ _⟩
theorem within_n (x m : Int) (w : World) (h : x < 0 ∨ m ≤ x) : Calls Try.prog 37 #[.int .i64 x, .int .i64 m] w fun e w' => e = .returned (.bool false) ∧ Below w.heap.size w w' := by
  by_cases h0 : x < 0
  · have d0 : decide (0 ≤ x) = false := decide_eq_false (by omega)
    clear h
    go_enter Try.func37, Try.ntmps37
    go_wp2_with fail
    go_ret
    exact ⟨rfl, Below.refl _ _⟩
  · have h1 : m ≤ x := by omega
    have h2 : 0 ≤ x := by omega
    have d0 : decide (x < m) = false := decide_eq_false (by omega)
    clear h h0
    go_enter Try.func37, Try.ntmps37
    go_wp2_with fail
    go_ret
    exact ⟨rfl, Below.refl _ _⟩
set_option maxHeartbeats 1000000 in
theorem owner_is (p c n b r f g x : Int) (w : World) (hp : 1 ≤ p ∧ p ≤ 6) (hc : 1 ≤ c ∧ c ≤ 4) : Calls Try.prog 31 #[.agg #[.int .i64 p, .int .i64 c, .int .i64 n, .int .i64 b, .int .i64 r, .int .i64 f, .int .i64 g], .int .i64 x] w fun e w' => e = .returned (.int .i64 (ow p c x)) ∧ Below w.heap.size w w' := by
  have m := mul24 hp hc
  have HA := Lib.hid (fun W => all_r p c n b r f g W m)
  obtain ⟨c0, c1⟩ := hc
  unfold ow
  by_cases hx : 0 ≤ x ∧ x < p * c
  · rw [if_pos hx]
    obtain ⟨x0, x1⟩ := hx
    obtain ⟨m0, m1⟩ := m
    have HW := Lib.hid (fun W => within_y x (p * c) W x0 x1)
    have hq : Int.tdiv x c = x / c := Int.tdiv_eq_ediv_of_nonneg x0
    have hq0 : 0 ≤ x / c := Int.ediv_nonneg x0 (by omega)
    have hq1 : x / c ≤ x := Int.ediv_le_self c x0
    have hne : (c == 0) = false := by simp; omega
    have hx24 : x ≤ 24 := by omega
    clear hp m0 m1 x1
    go_enter Try.func31, Try.ntmps31
    go_wp2_with fail
    refine (HA.out _).mono ?_
    rintro e w1 ⟨rfl, hb1⟩
    have g1 : Below w.heap.size w w1 := Below.step (by go_grown) hb1
    have b1 := (Bl.new w [.int .i64 p, .int .i64 c, .int .i64 n, .int .i64 b, .int .i64 r, .int .i64 f, .int .i64 g] 26).below hb1
    go_wp2_with fail
    refine (HW.out _).mono ?_
    rintro e w2 ⟨rfl, hb2⟩
    have g2 := Below.step g1 hb2
    have b2 := b1.below hb2
    have k1 := b2.cell 1 _ rfl
    go_wp2_with fail
    go_ret
    exact ⟨by first | rfl | (rw [← hq]; rfl) | simp [hq], g2⟩
  · rw [if_neg hx]
    have HW := Lib.hid (fun W => within_n x (p * c) W (by omega))
    obtain ⟨m0, m1⟩ := m
    clear hp hx
    go_enter Try.func31, Try.ntmps31
    go_wp2_with fail
    refine (HA.out _).mono ?_
    rintro e w1 ⟨rfl, hb1⟩
    have g1 : Below w.heap.size w w1 := Below.step (by go_grown) hb1
    go_wp2_with fail
    refine (HW.out _).mono ?_
    rintro e w2 ⟨rfl, hb2⟩
    go_wp2_with fail
    go_ret
    exact ⟨rfl, Below.step g1 hb2⟩
theorem chk_0 (p c n b r f g tn ts tp tl tu q : Int) (w : World) (hc : tn < 0) : Calls Try.prog 33 #[.agg #[.int .i64 p, .int .i64 c, .int .i64 n, .int .i64 b, .int .i64 r, .int .i64 f, .int .i64 g], .agg #[.int .i64 tn, .int .i64 ts, .int .i64 tp, .int .i64 tl, .int .i64 tu], .int .i64 q, .int .i64 0] w fun e w' => e = .returned (.iface 57 (.int .i64 22)) ∧ Below w.heap.size w w' := by
  go_enter Try.func33, Try.ntmps33
  go_wp2_with fail
  go_ret
  exact ⟨rfl, by go_grown⟩
theorem chk_1 (p c n b r f g tn ts tp tl tu q : Int) (w : World) (h0 : 0 ≤ tn) (hc : n ≤ tn) : Calls Try.prog 33 #[.agg #[.int .i64 p, .int .i64 c, .int .i64 n, .int .i64 b, .int .i64 r, .int .i64 f, .int .i64 g], .agg #[.int .i64 tn, .int .i64 ts, .int .i64 tp, .int .i64 tl, .int .i64 tu], .int .i64 q, .int .i64 0] w fun e w' => e = .returned (.iface 57 (.int .i64 22)) ∧ Below w.heap.size w w' := by
  have d0 : decide (tn < 0) = false := decide_eq_false (by omega)
  go_enter Try.func33, Try.ntmps33
  go_wp2_with fail
  go_ret
  exact ⟨rfl, by go_grown⟩
theorem chk_2 (p c n b r f g tn ts tp tl tu q : Int) (w : World) (h0 : 0 ≤ tn) (h1 : tn < n) (hc : ts ≠ 0 ∧ ts ≠ 1) : Calls Try.prog 33 #[.agg #[.int .i64 p, .int .i64 c, .int .i64 n, .int .i64 b, .int .i64 r, .int .i64 f, .int .i64 g], .agg #[.int .i64 tn, .int .i64 ts, .int .i64 tp, .int .i64 tl, .int .i64 tu], .int .i64 q, .int .i64 0] w fun e w' => e = .returned (.iface 57 (.int .i64 1)) ∧ Below w.heap.size w w' := by
  have d0 : decide (tn < 0) = false := decide_eq_false (by omega)
  have d1 : decide (n ≤ tn) = false := decide_eq_false (by omega)
  have s0 : (ts != 0) = true := by simpa using hc.1
  have s1 : (ts != 1) = true := by simpa using hc.2
  clear hc
  go_enter Try.func33, Try.ntmps33
  go_wp2_with fail
  go_ret
  exact ⟨rfl, by go_grown⟩
theorem chk_3_0 (p c n b r f g tn tp tl tu q : Int) (w : World) (h0 : 0 ≤ tn) (h1 : tn < n) (hc : q < 1) : Calls Try.prog 33 #[.agg #[.int .i64 p, .int .i64 c, .int .i64 n, .int .i64 b, .int .i64 r, .int .i64 f, .int .i64 g], .agg #[.int .i64 tn, .int .i64 0, .int .i64 tp, .int .i64 tl, .int .i64 tu], .int .i64 q, .int .i64 0] w fun e w' => e = .returned (.iface 57 (.int .i64 23)) ∧ Below w.heap.size w w' := by
  have d0 : decide (tn < 0) = false := decide_eq_false (by omega)
  have d1 : decide (n ≤ tn) = false := decide_eq_false (by omega)
  go_enter Try.func33, Try.ntmps33
  go_wp2_with fail
  go_ret
  exact ⟨rfl, by go_grown⟩
theorem chk_3_1 (p c n b r f g tn tp tl tu q : Int) (w : World) (h0 : 0 ≤ tn) (h1 : tn < n) (hc : q < 1) : Calls Try.prog 33 #[.agg #[.int .i64 p, .int .i64 c, .int .i64 n, .int .i64 b, .int .i64 r, .int .i64 f, .int .i64 g], .agg #[.int .i64 tn, .int .i64 1, .int .i64 tp, .int .i64 tl, .int .i64 tu], .int .i64 q, .int .i64 0] w fun e w' => e = .returned (.iface 57 (.int .i64 23)) ∧ Below w.heap.size w w' := by
  have d0 : decide (tn < 0) = false := decide_eq_false (by omega)
  have d1 : decide (n ≤ tn) = false := decide_eq_false (by omega)
  go_enter Try.func33, Try.ntmps33
  go_wp2_with fail
  go_ret
  exact ⟨rfl, by go_grown⟩
theorem chk_4_0 (p c n b r f g tn tp tl tu q : Int) (w : World) (h0 : 0 ≤ tn) (h1 : tn < n) (h3 : 1 ≤ q) (hc : 9999 < q) : Calls Try.prog 33 #[.agg #[.int .i64 p, .int .i64 c, .int .i64 n, .int .i64 b, .int .i64 r, .int .i64 f, .int .i64 g], .agg #[.int .i64 tn, .int .i64 0, .int .i64 tp, .int .i64 tl, .int .i64 tu], .int .i64 q, .int .i64 0] w fun e w' => e = .returned (.iface 57 (.int .i64 23)) ∧ Below w.heap.size w w' := by
  have d0 : decide (tn < 0) = false := decide_eq_false (by omega)
  have d1 : decide (n ≤ tn) = false := decide_eq_false (by omega)
  have d3 : decide (q < 1) = false := decide_eq_false (by omega)
  go_enter Try.func33, Try.ntmps33
  go_wp2_with fail
  go_ret
  exact ⟨rfl, by go_grown⟩
theorem chk_4_1 (p c n b r f g tn tp tl tu q : Int) (w : World) (h0 : 0 ≤ tn) (h1 : tn < n) (h3 : 1 ≤ q) (hc : 9999 < q) : Calls Try.prog 33 #[.agg #[.int .i64 p, .int .i64 c, .int .i64 n, .int .i64 b, .int .i64 r, .int .i64 f, .int .i64 g], .agg #[.int .i64 tn, .int .i64 1, .int .i64 tp, .int .i64 tl, .int .i64 tu], .int .i64 q, .int .i64 0] w fun e w' => e = .returned (.iface 57 (.int .i64 23)) ∧ Below w.heap.size w w' := by
  have d0 : decide (tn < 0) = false := decide_eq_false (by omega)
  have d1 : decide (n ≤ tn) = false := decide_eq_false (by omega)
  have d3 : decide (q < 1) = false := decide_eq_false (by omega)
  go_enter Try.func33, Try.ntmps33
  go_wp2_with fail
  go_ret
  exact ⟨rfl, by go_grown⟩
theorem chk_5_0 (p c n b r f g tn tp tl tu q : Int) (w : World) (h0 : 0 ≤ tn) (h1 : tn < n) (h3 : 1 ≤ q) (h4 : q ≤ 9999) (hc : tp < 1) : Calls Try.prog 33 #[.agg #[.int .i64 p, .int .i64 c, .int .i64 n, .int .i64 b, .int .i64 r, .int .i64 f, .int .i64 g], .agg #[.int .i64 tn, .int .i64 0, .int .i64 tp, .int .i64 tl, .int .i64 tu], .int .i64 q, .int .i64 0] w fun e w' => e = .returned (.iface 57 (.int .i64 24)) ∧ Below w.heap.size w w' := by
  have d0 : decide (tn < 0) = false := decide_eq_false (by omega)
  have d1 : decide (n ≤ tn) = false := decide_eq_false (by omega)
  have d3 : decide (q < 1) = false := decide_eq_false (by omega)
  have d4 : decide (9999 < q) = false := decide_eq_false (by omega)
  go_enter Try.func33, Try.ntmps33
  go_wp2_with fail
  go_ret
  exact ⟨rfl, by go_grown⟩
theorem chk_5_1 (p c n b r f g tn tp tl tu q : Int) (w : World) (h0 : 0 ≤ tn) (h1 : tn < n) (h3 : 1 ≤ q) (h4 : q ≤ 9999) (hc : tp < 1) : Calls Try.prog 33 #[.agg #[.int .i64 p, .int .i64 c, .int .i64 n, .int .i64 b, .int .i64 r, .int .i64 f, .int .i64 g], .agg #[.int .i64 tn, .int .i64 1, .int .i64 tp, .int .i64 tl, .int .i64 tu], .int .i64 q, .int .i64 0] w fun e w' => e = .returned (.iface 57 (.int .i64 24)) ∧ Below w.heap.size w w' := by
  have d0 : decide (tn < 0) = false := decide_eq_false (by omega)
  have d1 : decide (n ≤ tn) = false := decide_eq_false (by omega)
  have d3 : decide (q < 1) = false := decide_eq_false (by omega)
  have d4 : decide (9999 < q) = false := decide_eq_false (by omega)
  go_enter Try.func33, Try.ntmps33
  go_wp2_with fail
  go_ret
  exact ⟨rfl, by go_grown⟩
theorem chk_6_0 (p c n b r f g tn tp tl tu q : Int) (w : World) (h0 : 0 ≤ tn) (h1 : tn < n) (h3 : 1 ≤ q) (h4 : q ≤ 9999) (h5 : 1 ≤ tp) (hc : 9999 < tp) : Calls Try.prog 33 #[.agg #[.int .i64 p, .int .i64 c, .int .i64 n, .int .i64 b, .int .i64 r, .int .i64 f, .int .i64 g], .agg #[.int .i64 tn, .int .i64 0, .int .i64 tp, .int .i64 tl, .int .i64 tu], .int .i64 q, .int .i64 0] w fun e w' => e = .returned (.iface 57 (.int .i64 24)) ∧ Below w.heap.size w w' := by
  have d0 : decide (tn < 0) = false := decide_eq_false (by omega)
  have d1 : decide (n ≤ tn) = false := decide_eq_false (by omega)
  have d3 : decide (q < 1) = false := decide_eq_false (by omega)
  have d4 : decide (9999 < q) = false := decide_eq_false (by omega)
  have d5 : decide (tp < 1) = false := decide_eq_false (by omega)
  go_enter Try.func33, Try.ntmps33
  go_wp2_with fail
  go_ret
  exact ⟨rfl, by go_grown⟩
theorem chk_6_1 (p c n b r f g tn tp tl tu q : Int) (w : World) (h0 : 0 ≤ tn) (h1 : tn < n) (h3 : 1 ≤ q) (h4 : q ≤ 9999) (h5 : 1 ≤ tp) (hc : 9999 < tp) : Calls Try.prog 33 #[.agg #[.int .i64 p, .int .i64 c, .int .i64 n, .int .i64 b, .int .i64 r, .int .i64 f, .int .i64 g], .agg #[.int .i64 tn, .int .i64 1, .int .i64 tp, .int .i64 tl, .int .i64 tu], .int .i64 q, .int .i64 0] w fun e w' => e = .returned (.iface 57 (.int .i64 24)) ∧ Below w.heap.size w w' := by
  have d0 : decide (tn < 0) = false := decide_eq_false (by omega)
  have d1 : decide (n ≤ tn) = false := decide_eq_false (by omega)
  have d3 : decide (q < 1) = false := decide_eq_false (by omega)
  have d4 : decide (9999 < q) = false := decide_eq_false (by omega)
  have d5 : decide (tp < 1) = false := decide_eq_false (by omega)
  go_enter Try.func33, Try.ntmps33
  go_wp2_with fail
  go_ret
  exact ⟨rfl, by go_grown⟩
theorem chk_7_0 (p c n b r f g tn tp tl tu q : Int) (w : World) (h0 : 0 ≤ tn) (h1 : tn < n) (h3 : 1 ≤ q) (h4 : q ≤ 9999) (h5 : 1 ≤ tp) (h6 : tp ≤ 9999) (hc : tl < 1) : Calls Try.prog 33 #[.agg #[.int .i64 p, .int .i64 c, .int .i64 n, .int .i64 b, .int .i64 r, .int .i64 f, .int .i64 g], .agg #[.int .i64 tn, .int .i64 0, .int .i64 tp, .int .i64 tl, .int .i64 tu], .int .i64 q, .int .i64 0] w fun e w' => e = .returned (.iface 57 (.int .i64 25)) ∧ Below w.heap.size w w' := by
  have d0 : decide (tn < 0) = false := decide_eq_false (by omega)
  have d1 : decide (n ≤ tn) = false := decide_eq_false (by omega)
  have d3 : decide (q < 1) = false := decide_eq_false (by omega)
  have d4 : decide (9999 < q) = false := decide_eq_false (by omega)
  have d5 : decide (tp < 1) = false := decide_eq_false (by omega)
  have d6 : decide (9999 < tp) = false := decide_eq_false (by omega)
  go_enter Try.func33, Try.ntmps33
  go_wp2_with fail
  go_ret
  exact ⟨rfl, by go_grown⟩
theorem chk_7_1 (p c n b r f g tn tp tl tu q : Int) (w : World) (h0 : 0 ≤ tn) (h1 : tn < n) (h3 : 1 ≤ q) (h4 : q ≤ 9999) (h5 : 1 ≤ tp) (h6 : tp ≤ 9999) (hc : tl < 1) : Calls Try.prog 33 #[.agg #[.int .i64 p, .int .i64 c, .int .i64 n, .int .i64 b, .int .i64 r, .int .i64 f, .int .i64 g], .agg #[.int .i64 tn, .int .i64 1, .int .i64 tp, .int .i64 tl, .int .i64 tu], .int .i64 q, .int .i64 0] w fun e w' => e = .returned (.iface 57 (.int .i64 25)) ∧ Below w.heap.size w w' := by
  have d0 : decide (tn < 0) = false := decide_eq_false (by omega)
  have d1 : decide (n ≤ tn) = false := decide_eq_false (by omega)
  have d3 : decide (q < 1) = false := decide_eq_false (by omega)
  have d4 : decide (9999 < q) = false := decide_eq_false (by omega)
  have d5 : decide (tp < 1) = false := decide_eq_false (by omega)
  have d6 : decide (9999 < tp) = false := decide_eq_false (by omega)
  go_enter Try.func33, Try.ntmps33
  go_wp2_with fail
  go_ret
  exact ⟨rfl, by go_grown⟩
theorem chk_8_0 (p c n b r f g tn tp tl tu q : Int) (w : World) (h0 : 0 ≤ tn) (h1 : tn < n) (h3 : 1 ≤ q) (h4 : q ≤ 9999) (h5 : 1 ≤ tp) (h6 : tp ≤ 9999) (h7 : 1 ≤ tl) (hc : q < tl) : Calls Try.prog 33 #[.agg #[.int .i64 p, .int .i64 c, .int .i64 n, .int .i64 b, .int .i64 r, .int .i64 f, .int .i64 g], .agg #[.int .i64 tn, .int .i64 0, .int .i64 tp, .int .i64 tl, .int .i64 tu], .int .i64 q, .int .i64 0] w fun e w' => e = .returned (.iface 57 (.int .i64 25)) ∧ Below w.heap.size w w' := by
  have d0 : decide (tn < 0) = false := decide_eq_false (by omega)
  have d1 : decide (n ≤ tn) = false := decide_eq_false (by omega)
  have d3 : decide (q < 1) = false := decide_eq_false (by omega)
  have d4 : decide (9999 < q) = false := decide_eq_false (by omega)
  have d5 : decide (tp < 1) = false := decide_eq_false (by omega)
  have d6 : decide (9999 < tp) = false := decide_eq_false (by omega)
  have d7 : decide (tl < 1) = false := decide_eq_false (by omega)
  go_enter Try.func33, Try.ntmps33
  go_wp2_with fail
  go_ret
  exact ⟨rfl, by go_grown⟩
theorem chk_8_1 (p c n b r f g tn tp tl tu q : Int) (w : World) (h0 : 0 ≤ tn) (h1 : tn < n) (h3 : 1 ≤ q) (h4 : q ≤ 9999) (h5 : 1 ≤ tp) (h6 : tp ≤ 9999) (h7 : 1 ≤ tl) (hc : q < tl) : Calls Try.prog 33 #[.agg #[.int .i64 p, .int .i64 c, .int .i64 n, .int .i64 b, .int .i64 r, .int .i64 f, .int .i64 g], .agg #[.int .i64 tn, .int .i64 1, .int .i64 tp, .int .i64 tl, .int .i64 tu], .int .i64 q, .int .i64 0] w fun e w' => e = .returned (.iface 57 (.int .i64 25)) ∧ Below w.heap.size w w' := by
  have d0 : decide (tn < 0) = false := decide_eq_false (by omega)
  have d1 : decide (n ≤ tn) = false := decide_eq_false (by omega)
  have d3 : decide (q < 1) = false := decide_eq_false (by omega)
  have d4 : decide (9999 < q) = false := decide_eq_false (by omega)
  have d5 : decide (tp < 1) = false := decide_eq_false (by omega)
  have d6 : decide (9999 < tp) = false := decide_eq_false (by omega)
  have d7 : decide (tl < 1) = false := decide_eq_false (by omega)
  go_enter Try.func33, Try.ntmps33
  go_wp2_with fail
  go_ret
  exact ⟨rfl, by go_grown⟩
theorem chk_9_0 (p c n b r f g tn tp tl tu q : Int) (w : World) (h0 : 0 ≤ tn) (h1 : tn < n) (h3 : 1 ≤ q) (h4 : q ≤ 9999) (h5 : 1 ≤ tp) (h6 : tp ≤ 9999) (h7 : 1 ≤ tl) (h8 : tl ≤ q) (hc : tu ≤ 0) : Calls Try.prog 33 #[.agg #[.int .i64 p, .int .i64 c, .int .i64 n, .int .i64 b, .int .i64 r, .int .i64 f, .int .i64 g], .agg #[.int .i64 tn, .int .i64 0, .int .i64 tp, .int .i64 tl, .int .i64 tu], .int .i64 q, .int .i64 0] w fun e w' => e = .returned (.iface 57 (.int .i64 26)) ∧ Below w.heap.size w w' := by
  have d0 : decide (tn < 0) = false := decide_eq_false (by omega)
  have d1 : decide (n ≤ tn) = false := decide_eq_false (by omega)
  have d3 : decide (q < 1) = false := decide_eq_false (by omega)
  have d4 : decide (9999 < q) = false := decide_eq_false (by omega)
  have d5 : decide (tp < 1) = false := decide_eq_false (by omega)
  have d6 : decide (9999 < tp) = false := decide_eq_false (by omega)
  have d7 : decide (tl < 1) = false := decide_eq_false (by omega)
  have d8 : decide (q < tl) = false := decide_eq_false (by omega)
  go_enter Try.func33, Try.ntmps33
  go_wp2_with fail
  go_ret
  exact ⟨rfl, by go_grown⟩
theorem chk_9_1 (p c n b r f g tn tp tl tu q : Int) (w : World) (h0 : 0 ≤ tn) (h1 : tn < n) (h3 : 1 ≤ q) (h4 : q ≤ 9999) (h5 : 1 ≤ tp) (h6 : tp ≤ 9999) (h7 : 1 ≤ tl) (h8 : tl ≤ q) (hc : tu ≤ 0) : Calls Try.prog 33 #[.agg #[.int .i64 p, .int .i64 c, .int .i64 n, .int .i64 b, .int .i64 r, .int .i64 f, .int .i64 g], .agg #[.int .i64 tn, .int .i64 1, .int .i64 tp, .int .i64 tl, .int .i64 tu], .int .i64 q, .int .i64 0] w fun e w' => e = .returned (.iface 57 (.int .i64 26)) ∧ Below w.heap.size w w' := by
  have d0 : decide (tn < 0) = false := decide_eq_false (by omega)
  have d1 : decide (n ≤ tn) = false := decide_eq_false (by omega)
  have d3 : decide (q < 1) = false := decide_eq_false (by omega)
  have d4 : decide (9999 < q) = false := decide_eq_false (by omega)
  have d5 : decide (tp < 1) = false := decide_eq_false (by omega)
  have d6 : decide (9999 < tp) = false := decide_eq_false (by omega)
  have d7 : decide (tl < 1) = false := decide_eq_false (by omega)
  have d8 : decide (q < tl) = false := decide_eq_false (by omega)
  go_enter Try.func33, Try.ntmps33
  go_wp2_with fail
  go_ret
  exact ⟨rfl, by go_grown⟩
theorem chk_10_0 (p c n b r f g tn tp tl tu q : Int) (w : World) (h0 : 0 ≤ tn) (h1 : tn < n) (h3 : 1 ≤ q) (h4 : q ≤ 9999) (h5 : 1 ≤ tp) (h6 : tp ≤ 9999) (h7 : 1 ≤ tl) (h8 : tl ≤ q) (h9 : 0 < tu) (hc : 1000000 < tu) : Calls Try.prog 33 #[.agg #[.int .i64 p, .int .i64 c, .int .i64 n, .int .i64 b, .int .i64 r, .int .i64 f, .int .i64 g], .agg #[.int .i64 tn, .int .i64 0, .int .i64 tp, .int .i64 tl, .int .i64 tu], .int .i64 q, .int .i64 0] w fun e w' => e = .returned (.iface 57 (.int .i64 26)) ∧ Below w.heap.size w w' := by
  have d0 : decide (tn < 0) = false := decide_eq_false (by omega)
  have d1 : decide (n ≤ tn) = false := decide_eq_false (by omega)
  have d3 : decide (q < 1) = false := decide_eq_false (by omega)
  have d4 : decide (9999 < q) = false := decide_eq_false (by omega)
  have d5 : decide (tp < 1) = false := decide_eq_false (by omega)
  have d6 : decide (9999 < tp) = false := decide_eq_false (by omega)
  have d7 : decide (tl < 1) = false := decide_eq_false (by omega)
  have d8 : decide (q < tl) = false := decide_eq_false (by omega)
  have d9 : decide (tu ≤ 0) = false := decide_eq_false (by omega)
  go_enter Try.func33, Try.ntmps33
  go_wp2_with fail
  go_ret
  exact ⟨rfl, by go_grown⟩
theorem chk_10_1 (p c n b r f g tn tp tl tu q : Int) (w : World) (h0 : 0 ≤ tn) (h1 : tn < n) (h3 : 1 ≤ q) (h4 : q ≤ 9999) (h5 : 1 ≤ tp) (h6 : tp ≤ 9999) (h7 : 1 ≤ tl) (h8 : tl ≤ q) (h9 : 0 < tu) (hc : 1000000 < tu) : Calls Try.prog 33 #[.agg #[.int .i64 p, .int .i64 c, .int .i64 n, .int .i64 b, .int .i64 r, .int .i64 f, .int .i64 g], .agg #[.int .i64 tn, .int .i64 1, .int .i64 tp, .int .i64 tl, .int .i64 tu], .int .i64 q, .int .i64 0] w fun e w' => e = .returned (.iface 57 (.int .i64 26)) ∧ Below w.heap.size w w' := by
  have d0 : decide (tn < 0) = false := decide_eq_false (by omega)
  have d1 : decide (n ≤ tn) = false := decide_eq_false (by omega)
  have d3 : decide (q < 1) = false := decide_eq_false (by omega)
  have d4 : decide (9999 < q) = false := decide_eq_false (by omega)
  have d5 : decide (tp < 1) = false := decide_eq_false (by omega)
  have d6 : decide (9999 < tp) = false := decide_eq_false (by omega)
  have d7 : decide (tl < 1) = false := decide_eq_false (by omega)
  have d8 : decide (q < tl) = false := decide_eq_false (by omega)
  have d9 : decide (tu ≤ 0) = false := decide_eq_false (by omega)
  go_enter Try.func33, Try.ntmps33
  go_wp2_with fail
  go_ret
  exact ⟨rfl, by go_grown⟩
theorem chk_11_0 (p c n b r f g tn tp tl tu q : Int) (w : World) (h0 : 0 ≤ tn) (h1 : tn < n) (h3 : 1 ≤ q) (h4 : q ≤ 9999) (h5 : 1 ≤ tp) (h6 : tp ≤ 9999) (h7 : 1 ≤ tl) (h8 : tl ≤ q) (h9 : 0 < tu) (h10 : tu ≤ 1000000) : Calls Try.prog 33 #[.agg #[.int .i64 p, .int .i64 c, .int .i64 n, .int .i64 b, .int .i64 r, .int .i64 f, .int .i64 g], .agg #[.int .i64 tn, .int .i64 0, .int .i64 tp, .int .i64 tl, .int .i64 tu], .int .i64 q, .int .i64 0] w fun e w' => e = .returned (.nilIface) ∧ Below w.heap.size w w' := by
  have d0 : decide (tn < 0) = false := decide_eq_false (by omega)
  have d1 : decide (n ≤ tn) = false := decide_eq_false (by omega)
  have d3 : decide (q < 1) = false := decide_eq_false (by omega)
  have d4 : decide (9999 < q) = false := decide_eq_false (by omega)
  have d5 : decide (tp < 1) = false := decide_eq_false (by omega)
  have d6 : decide (9999 < tp) = false := decide_eq_false (by omega)
  have d7 : decide (tl < 1) = false := decide_eq_false (by omega)
  have d8 : decide (q < tl) = false := decide_eq_false (by omega)
  have d9 : decide (tu ≤ 0) = false := decide_eq_false (by omega)
  have d10 : decide (1000000 < tu) = false := decide_eq_false (by omega)
  go_enter Try.func33, Try.ntmps33
  go_wp2_with fail
  go_ret
  exact ⟨rfl, by go_grown⟩
theorem chk_11_1 (p c n b r f g tn tp tl tu q : Int) (w : World) (h0 : 0 ≤ tn) (h1 : tn < n) (h3 : 1 ≤ q) (h4 : q ≤ 9999) (h5 : 1 ≤ tp) (h6 : tp ≤ 9999) (h7 : 1 ≤ tl) (h8 : tl ≤ q) (h9 : 0 < tu) (h10 : tu ≤ 1000000) : Calls Try.prog 33 #[.agg #[.int .i64 p, .int .i64 c, .int .i64 n, .int .i64 b, .int .i64 r, .int .i64 f, .int .i64 g], .agg #[.int .i64 tn, .int .i64 1, .int .i64 tp, .int .i64 tl, .int .i64 tu], .int .i64 q, .int .i64 0] w fun e w' => e = .returned (.nilIface) ∧ Below w.heap.size w w' := by
  have d0 : decide (tn < 0) = false := decide_eq_false (by omega)
  have d1 : decide (n ≤ tn) = false := decide_eq_false (by omega)
  have d3 : decide (q < 1) = false := decide_eq_false (by omega)
  have d4 : decide (9999 < q) = false := decide_eq_false (by omega)
  have d5 : decide (tp < 1) = false := decide_eq_false (by omega)
  have d6 : decide (9999 < tp) = false := decide_eq_false (by omega)
  have d7 : decide (tl < 1) = false := decide_eq_false (by omega)
  have d8 : decide (q < tl) = false := decide_eq_false (by omega)
  have d9 : decide (tu ≤ 0) = false := decide_eq_false (by omega)
  have d10 : decide (1000000 < tu) = false := decide_eq_false (by omega)
  go_enter Try.func33, Try.ntmps33
  go_wp2_with fail
  go_ret
  exact ⟨rfl, by go_grown⟩
theorem check_any (p c n b r f g tn ts tp tl tu q : Int) : ∃ E : Value, (∀ w, Calls Try.prog 33 #[.agg #[.int .i64 p, .int .i64 c, .int .i64 n, .int .i64 b, .int .i64 r, .int .i64 f, .int .i64 g], .agg #[.int .i64 tn, .int .i64 ts, .int .i64 tp, .int .i64 tl, .int .i64 tu], .int .i64 q, .int .i64 0] w fun e w' => e = .returned E ∧ Below w.heap.size w w') ∧ ((∃ k : Int, E = .iface 57 (.int .i64 k)) ∨ (E = .nilIface ∧ 1 ≤ q ∧ q ≤ 9999 ∧ 1 ≤ tp ∧ tp ≤ 9999 ∧ 1 ≤ tl)) := by
  by_cases c0 : tn < 0
  · exact ⟨_, fun W => chk_0 p c n b r f g tn ts tp tl tu q W  c0, .inl ⟨_, rfl⟩⟩
  · by_cases c1 : n ≤ tn
    · exact ⟨_, fun W => chk_1 p c n b r f g tn ts tp tl tu q W (by omega) c1, .inl ⟨_, rfl⟩⟩
    · by_cases k0 : ts = 0
      · subst k0
        by_cases c3 : q < 1
        · exact ⟨_, fun W => chk_3_0 p c n b r f g tn tp tl tu q W (by omega) (by omega) c3, .inl ⟨_, rfl⟩⟩
        · by_cases c4 : 9999 < q
          · exact ⟨_, fun W => chk_4_0 p c n b r f g tn tp tl tu q W (by omega) (by omega) (by omega) c4, .inl ⟨_, rfl⟩⟩
          · by_cases c5 : tp < 1
            · exact ⟨_, fun W => chk_5_0 p c n b r f g tn tp tl tu q W (by omega) (by omega) (by omega) (by omega) c5, .inl ⟨_, rfl⟩⟩
            · by_cases c6 : 9999 < tp
              · exact ⟨_, fun W => chk_6_0 p c n b r f g tn tp tl tu q W (by omega) (by omega) (by omega) (by omega) (by omega) c6, .inl ⟨_, rfl⟩⟩
              · by_cases c7 : tl < 1
                · exact ⟨_, fun W => chk_7_0 p c n b r f g tn tp tl tu q W (by omega) (by omega) (by omega) (by omega) (by omega) (by omega) c7, .inl ⟨_, rfl⟩⟩
                · by_cases c8 : q < tl
                  · exact ⟨_, fun W => chk_8_0 p c n b r f g tn tp tl tu q W (by omega) (by omega) (by omega) (by omega) (by omega) (by omega) (by omega) c8, .inl ⟨_, rfl⟩⟩
                  · by_cases c9 : tu ≤ 0
                    · exact ⟨_, fun W => chk_9_0 p c n b r f g tn tp tl tu q W (by omega) (by omega) (by omega) (by omega) (by omega) (by omega) (by omega) (by omega) c9, .inl ⟨_, rfl⟩⟩
                    · by_cases c10 : 1000000 < tu
                      · exact ⟨_, fun W => chk_10_0 p c n b r f g tn tp tl tu q W (by omega) (by omega) (by omega) (by omega) (by omega) (by omega) (by omega) (by omega) (by omega) c10, .inl ⟨_, rfl⟩⟩
                      · exact ⟨.nilIface, fun W => chk_11_0 p c n b r f g tn tp tl tu q W (by omega) (by omega) (by omega) (by omega) (by omega) (by omega) (by omega) (by omega) (by omega) (by omega), .inr ⟨rfl, by omega, by omega, by omega, by omega, by omega⟩⟩
      · by_cases k1 : ts = 1
        · subst k1
          by_cases c3 : q < 1
          · exact ⟨_, fun W => chk_3_1 p c n b r f g tn tp tl tu q W (by omega) (by omega) c3, .inl ⟨_, rfl⟩⟩
          · by_cases c4 : 9999 < q
            · exact ⟨_, fun W => chk_4_1 p c n b r f g tn tp tl tu q W (by omega) (by omega) (by omega) c4, .inl ⟨_, rfl⟩⟩
            · by_cases c5 : tp < 1
              · exact ⟨_, fun W => chk_5_1 p c n b r f g tn tp tl tu q W (by omega) (by omega) (by omega) (by omega) c5, .inl ⟨_, rfl⟩⟩
              · by_cases c6 : 9999 < tp
                · exact ⟨_, fun W => chk_6_1 p c n b r f g tn tp tl tu q W (by omega) (by omega) (by omega) (by omega) (by omega) c6, .inl ⟨_, rfl⟩⟩
                · by_cases c7 : tl < 1
                  · exact ⟨_, fun W => chk_7_1 p c n b r f g tn tp tl tu q W (by omega) (by omega) (by omega) (by omega) (by omega) (by omega) c7, .inl ⟨_, rfl⟩⟩
                  · by_cases c8 : q < tl
                    · exact ⟨_, fun W => chk_8_1 p c n b r f g tn tp tl tu q W (by omega) (by omega) (by omega) (by omega) (by omega) (by omega) (by omega) c8, .inl ⟨_, rfl⟩⟩
                    · by_cases c9 : tu ≤ 0
                      · exact ⟨_, fun W => chk_9_1 p c n b r f g tn tp tl tu q W (by omega) (by omega) (by omega) (by omega) (by omega) (by omega) (by omega) (by omega) c9, .inl ⟨_, rfl⟩⟩
                      · by_cases c10 : 1000000 < tu
                        · exact ⟨_, fun W => chk_10_1 p c n b r f g tn tp tl tu q W (by omega) (by omega) (by omega) (by omega) (by omega) (by omega) (by omega) (by omega) (by omega) c10, .inl ⟨_, rfl⟩⟩
                        · exact ⟨.nilIface, fun W => chk_11_1 p c n b r f g tn tp tl tu q W (by omega) (by omega) (by omega) (by omega) (by omega) (by omega) (by omega) (by omega) (by omega) (by omega), .inr ⟨rfl, by omega, by omega, by omega, by omega, by omega⟩⟩
        · exact ⟨_, fun W => chk_2 p c n b r f g tn ts tp tl tu q W (by omega) (by omega) ⟨k0, k1⟩, .inl ⟨_, rfl⟩⟩
end Go.Proofs.Ytnhmdaoghcfghaa

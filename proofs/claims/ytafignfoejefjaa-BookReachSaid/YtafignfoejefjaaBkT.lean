/-
  Whose a cell is.
-/
import Derived.Test.YtafignfoejefjaaRows
import Derived.Test.YtafignfoejefjaaKit
import Derived.Test.YtafignfoejefjaaApp
import Derived.Test.YtafignfoejefjaaQuiet
import Derived.WalkKit
import Derived.ProofKit
import Derived.OpenShut
import Derived.ShutString
import Derived.Below
import Derived.Outline
import Derived.WalkLawsBesides
import Derived.WalkSpells
import Derived.Handy
import Derived.Deep.QuietTactic
import Derived.BigQuiet
import Derived.RegionTactic
import Derived.ChangeAlike
import Derived.Lib.Hide
import Derived.Laws.Rows
import Derived.Laws.Tables
import Derived.Laws.CopyOwn
import Derived.Laws.MakeOwn
import Derived.Laws.Entries
import Derived.Laws.OwnMore
import Derived.Deep.WholeRow
import Derived.Deep.LoopGhost
import Derived.Deep.AppendLies
import Derived.Deep.Draws
import Derived.Maps.AppendAt
import Derived.OwnWalk
import Derived.Deep.RegionHeld3
import Derived.Deep.Cut
import Derived.Deep.CutRange
import Derived.Deep.DeepCutAuto
import Derived.Deep.CutBlock
import Derived.Lib.SliceRun
import Derived.IntWalk
import Derived.Test.YtafignfoejefjaaBkM
import Derived.Test.YtafignfoejefjaaBkO
import Derived.Test.YtafignfoejefjaaBkP
import Derived.Test.YtafignfoejefjaaBkQ
import Derived.Test.YtafignfoejefjaaBkL
import Derived.Test.YtafignfoejefjaaBkR
namespace Go.Proofs.Ytafignfoejefjaa
open Go.ChangeShapes Go.WideShapes Go.ChangeAt Go.RowKit
def ow (p c x : Int) : Int := if 0 ≤ x ∧ x < p * c then x / c else -1
theorem mul24 {p c : Int} (hp : 1 ≤ p ∧ p ≤ 6) (hc : 1 ≤ c ∧ c ≤ 4) : 1 ≤ p * c ∧ p * c ≤ 24 := by
  obtain ⟨p0, p1⟩ := hp
  obtain ⟨c0, c1⟩ := hc
  exact ⟨by have := Int.mul_le_mul p0 c0 (by omega) (by omega); omega, by have := Int.mul_le_mul p1 c1 (by omega) (by omega); omega⟩
theorem all_r (p c n b r f g : Int) (w : World) (m : 1 ≤ p * c ∧ p * c ≤ 24) : Calls Try.prog 46 #[.agg #[.int .i64 p, .int .i64 c, .int .i64 n, .int .i64 b, .int .i64 r, .int .i64 f, .int .i64 g]] w fun e w' => e = .returned (.int .i64 (p * c)) ∧ Below w.heap.size w w' := by
  obtain ⟨m0, m1⟩ := m
  go_enter Try.func46, Try.ntmps46
  go_wp2_with fail
  go_ret
  exact ⟨rfl, by go_grown⟩
theorem within_y (x m : Int) (w : World) (h0 : 0 ≤ x) (h1 : x < m) : Calls Try.prog 45 #[.int .i64 x, .int .i64 m] w fun e w' => e = .returned (.bool true) ∧ Below w.heap.size w w' := by
  go_enter Try.func45, Try.ntmps45
  go_wp2_with fail
  go_ret
  exact ⟨rfl, Below.refl _ _⟩
theorem within_n (x m : Int) (w : World) (h : x < 0 ∨ m ≤ x) : Calls Try.prog 45 #[.int .i64 x, .int .i64 m] w fun e w' => e = .returned (.bool false) ∧ Below w.heap.size w w' := by
  by_cases h0 : x < 0
  · have d0 : decide (0 ≤ x) = false := decide_eq_false (by omega)
    clear h
    go_enter Try.func45, Try.ntmps45
    go_wp2_with fail
    go_ret
    exact ⟨rfl, Below.refl _ _⟩
  · have h1 : m ≤ x := by omega
    have h2 : 0 ≤ x := by omega
    have d0 : decide (x < m) = false := decide_eq_false (by omega)
    clear h h0
    go_enter Try.func45, Try.ntmps45
    go_wp2_with fail
    go_ret
    exact ⟨rfl, Below.refl _ _⟩
set_option maxHeartbeats 1000000 in
theorem owner_is (p c n b r f g x : Int) (w : World) (hp : 1 ≤ p ∧ p ≤ 6) (hc : 1 ≤ c ∧ c ≤ 4) : Calls Try.prog 31 #[.agg #[.int .i64 p, .int .i64 c, .int .i64 n, .int .i64 b, .int .i64 r, .int .i64 f, .int .i64 g], .int .i64 x] w fun e w' => e = .returned (.int .i64 (ow p c x)) ∧ Below w.heap.size w w' := by
  have m := mul24 hp hc
  have HA := Lib.hid (fun W => all_r p c n b r f g W m)
  obtain ⟨c0, c1⟩ := hc
  unfold ow
  by_cases hx : 0 ≤ x ∧ x < p * c
  · rw [if_pos hx]
    obtain ⟨x0, x1⟩ := hx
    obtain ⟨m0, m1⟩ := m
    have HW := Lib.hid (fun W => within_y x (p * c) W x0 x1)
    have hq : Int.tdiv x c = x / c := Int.tdiv_eq_ediv_of_nonneg x0
    have hq0 : 0 ≤ x / c := Int.ediv_nonneg x0 (by omega)
    have hq1 : x / c ≤ x := Int.ediv_le_self c x0
    have hne : (c == 0) = false := by simp; omega
    have hx24 : x ≤ 24 := by omega
    clear hp m0 m1 x1
    go_enter Try.func31, Try.ntmps31
    go_wp2_with fail
    refine (HA.out _).mono ?_
    rintro e w1 ⟨rfl, hb1⟩
    have g1 : Below w.heap.size w w1 := Below.step (by go_grown) hb1
    have b1 := (Bl.new w [.int .i64 p, .int .i64 c, .int .i64 n, .int .i64 b, .int .i64 r, .int .i64 f, .int .i64 g] 26).below hb1
    go_wp2_with fail
    refine (HW.out _).mono ?_
    rintro e w2 ⟨rfl, hb2⟩
    have g2 := Below.step g1 hb2
    have b2 := b1.below hb2
    have k1 := b2.cell 1 _ rfl
    go_wp2_with fail
    go_ret
    exact ⟨by first | rfl | (rw [← hq]; rfl) | simp [hq], g2⟩
  · rw [if_neg hx]
    have HW := Lib.hid (fun W => within_n x (p * c) W (by omega))
    obtain ⟨m0, m1⟩ := m
    clear hp hx
    go_enter Try.func31, Try.ntmps31
    go_wp2_with fail
    refine (HA.out _).mono ?_
    rintro e w1 ⟨rfl, hb1⟩
    have g1 : Below w.heap.size w w1 := Below.step (by go_grown) hb1
    go_wp2_with fail
    refine (HW.out _).mono ?_
    rintro e w2 ⟨rfl, hb2⟩
    go_wp2_with fail
    go_ret
    exact ⟨rfl, Below.step g1 hb2⟩
set_option maxHeartbeats 1000000 in
theorem owner20_is (p c n b r f g x : Int) (w : World) (hp : 1 ≤ p ∧ p ≤ 6) (hc : 1 ≤ c ∧ c ≤ 4) : Calls Try.prog 33 #[.agg #[.int .i64 p, .int .i64 c, .int .i64 n, .int .i64 b, .int .i64 r, .int .i64 f, .int .i64 g], .int .i64 x] w fun e w' => e = .returned (.int .i64 (ow p c x)) ∧ Below w.heap.size w w' := by
  obtain ⟨m0, m1⟩ := mul24 hp hc
  obtain ⟨c0, c1⟩ := hc
  unfold ow
  by_cases h0 : x < 0
  · rw [if_neg (by omega)]
    clear hp
    go_enter Try.func33, Try.ntmps33
    go_wp2
    go_ret
    exact ⟨rfl, by go_grown⟩
  · by_cases h1 : p * c ≤ x
    · rw [if_neg (by omega)]
      have d0 : decide (x < 0) = false := decide_eq_false h0
      clear hp h0
      go_enter Try.func33, Try.ntmps33
      go_wp2
      go_ret
      exact ⟨rfl, by go_grown⟩
    · rw [if_pos (by omega)]
      have d0 : decide (x < 0) = false := decide_eq_false h0
      have d1 : decide (p * c ≤ x) = false := decide_eq_false h1
      have x0 : 0 ≤ x := by omega
      have hq : Int.tdiv x c = x / c := Int.tdiv_eq_ediv_of_nonneg x0
      have hq0 : 0 ≤ x / c := Int.ediv_nonneg x0 (by omega)
      have hq1 : x / c ≤ x := Int.ediv_le_self c x0
      have hne : (c == 0) = false := by simp; omega
      have hx24 : x ≤ 24 := by omega
      clear hp h0 h1
      go_enter Try.func33, Try.ntmps33
      go_wp2_with fail
      go_ret
      exact ⟨by first | rfl | (rw [← hq]; rfl) | simp [hq], by go_grown⟩
end Go.Proofs.Ytafignfoejefjaa

/-
  Contracts of rules: counts, numbers and owners.
-/
import Derived.Test.YtjkojbaphdlhlaaDoorRows
import Derived.WalkKit
import Derived.ProofKit
import Derived.OpenShut
import Derived.ShutString
import Derived.Below
import Derived.Outline
import Derived.WalkLawsBesides
import Derived.WalkSpells
import Derived.Handy
import Derived.Deep.QuietTactic
import Derived.BigQuiet
import Derived.RegionTactic
import Derived.ChangeAlike
import Derived.Lib.Hide
import Derived.Laws.Rows
import Derived.Laws.Tables
import Derived.Laws.CopyOwn
import Derived.Laws.MakeOwn
import Derived.Laws.Entries
import Derived.Laws.OwnMore
import Derived.Deep.WholeRow
import Derived.Deep.LoopGhost
import Derived.Deep.AppendLies
import Derived.Deep.Draws
import Derived.Maps.AppendAt
import Derived.OwnWalk
import Derived.Deep.RegionHeld3
import Derived.Deep.Cut
import Derived.Deep.CutRange
import Derived.Deep.DeepCutAuto
import Derived.Deep.CutBlock
import Derived.Lib.SliceRun
import Derived.Test.YtjkojbaphdlhlaaDoorKit
import Derived.Test.YtjkojbaphdlhlaaDoorApp
import Derived.Test.YtjkojbaphdlhlaaDoorQuiet
import Derived.Test.YtjkojbaphdlhlaaDoorRcRules
import Derived.Test.YtjkojbaphdlhlaaDoorRcAts
import Derived.IntWalk
namespace Go.Proofs.YtjkojbaphdlhlaaDoor.Rc
open Go.ChangeShapes Go.WideShapes Go.ChangeAt Go.RowKit
theorem mul24 {p c : Int} (hp : 1 ≤ p ∧ p ≤ 6) (hc : 1 ≤ c ∧ c ≤ 4) : 1 ≤ p * c ∧ p * c ≤ 24 := by
  obtain ⟨p1, p2⟩ := hp
  rcases (show c = 1 ∨ c = 2 ∨ c = 3 ∨ c = 4 by omega) with rfl | rfl | rfl | rfl <;> omega
theorem mul12 {n b : Int} (hn : 1 ≤ n ∧ n ≤ 3) (hb : 1 ≤ b ∧ b ≤ 4) : 1 ≤ n * b ∧ n * b ≤ 12 := by
  obtain ⟨n1, n2⟩ := hn
  rcases (show b = 1 ∨ b = 2 ∨ b = 3 ∨ b = 4 by omega) with rfl | rfl | rfl | rfl <;> omega
theorem mulx {x b m : Int} (hx : 0 ≤ x ∧ x ≤ m) (hb : 1 ≤ b ∧ b ≤ 4) : 0 ≤ x * b ∧ x * b ≤ 4 * m := by
  obtain ⟨n1, n2⟩ := hx
  rcases (show b = 1 ∨ b = 2 ∨ b = 3 ∨ b = 4 by omega) with rfl | rfl | rfl | rfl <;> omega
theorem Blk7.drew {B : Nat} {v0 v1 v2 v3 v4 v5 v6 : Int} {w : World} (h : Blk7 B v0 v1 v2 v3 v4 v5 v6 w) : Blk7 B v0 v1 v2 v3 v4 v5 v6 w.drew := Blk7.below h (Below.drew (Below.refl _ _))
set_option maxHeartbeats 1000000 in
theorem all_i (p c n b r f g : Int) (w : World) (m : 1 ≤ p * c ∧ p * c ≤ 24) : Calls Tryd.prog 35 #[.agg #[.int .i64 p, .int .i64 c, .int .i64 n, .int .i64 b, .int .i64 r, .int .i64 f, .int .i64 g]] w fun e w' => e = .returned (.int .i64 (p * c)) ∧ Below w.heap.size w w' := by
  obtain ⟨m0, m1⟩ := m
  go_enter Tryd.func35, Tryd.ntmps35
  go_wp2
  go_ret
  exact ⟨rfl, by go_grown⟩
set_option maxHeartbeats 1000000 in
theorem shards_i (p c n b r f g : Int) (w : World) (m : 1 ≤ n * b ∧ n * b ≤ 12) : Calls Tryd.prog 36 #[.agg #[.int .i64 p, .int .i64 c, .int .i64 n, .int .i64 b, .int .i64 r, .int .i64 f, .int .i64 g]] w fun e w' => e = .returned (.int .i64 (n * b)) ∧ Below w.heap.size w w' := by
  obtain ⟨m0, m1⟩ := m
  go_enter Tryd.func36, Tryd.ntmps36
  go_wp2
  go_ret
  exact ⟨rfl, by go_grown⟩
set_option maxHeartbeats 1000000 in
theorem agents_i (p c n b r f g : Int) (w : World) (m : 1 ≤ n * b ∧ n * b ≤ 12) (hp : 1 ≤ p ∧ p ≤ 6) : Calls Tryd.prog 37 #[.agg #[.int .i64 p, .int .i64 c, .int .i64 n, .int .i64 b, .int .i64 r, .int .i64 f, .int .i64 g]] w fun e w' => e = .returned (.int .i64 (p + 2 * (n * b))) ∧ Below w.heap.size w w' := by
  have M := Lib.hid m
  obtain ⟨m0, m1⟩ := m
  obtain ⟨p1, p2⟩ := hp
  have W1 : IntKind.i64.wrap (2 * (n * b)) = 2 * (n * b) := IntWalk.i64_in _ (by omega)
  have W2 : IntKind.i64.wrap (p + 2 * (n * b)) = p + 2 * (n * b) := IntWalk.i64_in _ (by omega)
  have bX := Blk7.drew (Blk7.new w p c n b r f g 72)
  have hC : Below w.heap.size w (w.alloc (.cells #[.int .i64 p, .int .i64 c, .int .i64 n, .int .i64 b, .int .i64 r, .int .i64 f, .int .i64 g] 72)).drew := Below.drew (by go_grown)
  have hS := bX.1
  go_enter Tryd.func37, Tryd.ntmps37
  go_wp2_with fail
  go_region_held3 (fun w' => w'.cell? ⟨w.heap.size, 0, none⟩ = some (.int .i64 p) ∧ w'.cell? ⟨w.heap.size, 1, none⟩ = some (.int .i64 c) ∧ w'.cell? ⟨w.heap.size, 2, none⟩ = some (.int .i64 n) ∧ w'.cell? ⟨w.heap.size, 3, none⟩ = some (.int .i64 b) ∧ w'.cell? ⟨w.heap.size, 4, none⟩ = some (.int .i64 r) ∧ w'.cell? ⟨w.heap.size, 5, none⟩ = some (.int .i64 f) ∧ w'.cell? ⟨w.heap.size, 6, none⟩ = some (.int .i64 g)) (first | with_reducible exact hS | fail) (first | (go_at_call 36; (with_reducible refine (shards_i p c n b r f g _ M.out).mono ?_); rintro e wy ⟨rfl, hby⟩; have bX := Blk7.below bX hby; have hC := Below.step hC hby; have hS := bX.1; clear hby) | fail)
  go_wp2
  go_ret
  exact ⟨rfl, hC⟩
set_option maxHeartbeats 1000000 in
theorem owner_in (p c n b r f g : Int) (x : Int) (w : World) (m : 1 ≤ p * c ∧ p * c ≤ 24) (hc : 1 ≤ c) (x0 : 0 ≤ x) (x1 : x < p * c) : Calls Tryd.prog 40 #[.agg #[.int .i64 p, .int .i64 c, .int .i64 n, .int .i64 b, .int .i64 r, .int .i64 f, .int .i64 g], .int .i64 x] w fun e w' => e = .returned (.int .i64 (x / c)) ∧ Below w.heap.size w w' := by
  obtain ⟨m0, m1⟩ := m
  go_enter Tryd.func40, Tryd.ntmps40
  go_wp2
  go_ret
  exact ⟨rfl, by go_grown⟩
set_option maxHeartbeats 1000000 in
theorem own_in (p c n b r f g : Int) (x : Int) (w : World) (m : 1 ≤ p * c ∧ p * c ≤ 24) (hc : 1 ≤ c) (x0 : 0 ≤ x) (x1 : x < p * c) : Calls Tryd.prog 41 #[.agg #[.int .i64 p, .int .i64 c, .int .i64 n, .int .i64 b, .int .i64 r, .int .i64 f, .int .i64 g], .int .i64 x] w fun e w' => e = .returned (.int .i64 (x % c)) ∧ Below w.heap.size w w' := by
  obtain ⟨m0, m1⟩ := m
  go_enter Tryd.func41, Tryd.ntmps41
  go_wp2
  go_ret
  exact ⟨rfl, by go_grown⟩
set_option maxHeartbeats 1000000 in
theorem parted_in (p c n b r f g : Int) (x : Int) (w : World) (m : 1 ≤ n * b ∧ n * b ≤ 12) (hb : 1 ≤ b) (hp : 1 ≤ p ∧ p ≤ 6) (x0 : 0 ≤ x) (x1 : x < n * b) : Calls Tryd.prog 42 #[.agg #[.int .i64 p, .int .i64 c, .int .i64 n, .int .i64 b, .int .i64 r, .int .i64 f, .int .i64 g], .int .i64 x] w fun e w' => e = .returned (.tuple #[.int .i64 (x / b), .int .i64 (x % b)]) ∧ Below w.heap.size w w' := by
  obtain ⟨m0, m1⟩ := m
  go_enter Tryd.func42, Tryd.ntmps42
  go_wp2
  go_region
  go_wp2
  go_ret2
  exact ⟨rfl, by go_grown⟩
set_option maxHeartbeats 1000000 in
theorem sweeper_in (p c n b r f g : Int) (x : Int) (w : World) (m : 1 ≤ n * b ∧ n * b ≤ 12) (hb : 1 ≤ b) (hp : 1 ≤ p ∧ p ≤ 6) (x0 : 0 ≤ x) (x1 : x < n * b) : Calls Tryd.prog 43 #[.agg #[.int .i64 p, .int .i64 c, .int .i64 n, .int .i64 b, .int .i64 r, .int .i64 f, .int .i64 g], .int .i64 x] w fun e w' => e = .returned (.int .i64 (p + x)) ∧ Below w.heap.size w w' := by
  obtain ⟨m0, m1⟩ := m
  obtain ⟨p1, p2⟩ := hp
  go_enter Tryd.func43, Tryd.ntmps43
  go_wp2
  go_ret
  exact ⟨rfl, by go_grown⟩
set_option maxHeartbeats 1000000 in
theorem reaper_in (p c n b r f g : Int) (x : Int) (w : World) (m : 1 ≤ n * b ∧ n * b ≤ 12) (hb : 1 ≤ b) (hp : 1 ≤ p ∧ p ≤ 6) (x0 : 0 ≤ x) (x1 : x < n * b) : Calls Tryd.prog 44 #[.agg #[.int .i64 p, .int .i64 c, .int .i64 n, .int .i64 b, .int .i64 r, .int .i64 f, .int .i64 g], .int .i64 x] w fun e w' => e = .returned (.int .i64 (p + n * b + x)) ∧ Below w.heap.size w w' := by
  have M := Lib.hid m
  obtain ⟨m0, m1⟩ := m
  obtain ⟨p1, p2⟩ := hp
  have W1 : IntKind.i64.wrap (p + n * b) = p + n * b := IntWalk.i64_in _ (by omega)
  have W2 : IntKind.i64.wrap (p + n * b + x) = p + n * b + x := IntWalk.i64_in _ (by omega)
  go_enter Tryd.func44, Tryd.ntmps44
  go_wp2_with fail
  refine (shards_i p c n b r f g _ M.out).mono ?_
  rintro e w1 ⟨rfl, hb1⟩
  have bX1 := Blk7.below (Blk7.new w p c n b r f g 72) hb1
  have bX := Blk7.drew bX1
  have hC1 : Below w.heap.size w w1 := Below.step (by go_grown) hb1
  have hC : Below w.heap.size w w1.drew := Below.drew hC1
  have hS := bX.1
  clear hb1
  go_wp2_with fail
  refine (within_yes _ _ _ (by omega) (by omega)).mono ?_
  rintro e w' ⟨rfl, rfl⟩
  go_wp2_with fail
  go_region_held3 (fun w' => w'.cell? ⟨w.heap.size, 0, none⟩ = some (.int .i64 p) ∧ w'.cell? ⟨w.heap.size, 1, none⟩ = some (.int .i64 c) ∧ w'.cell? ⟨w.heap.size, 2, none⟩ = some (.int .i64 n) ∧ w'.cell? ⟨w.heap.size, 3, none⟩ = some (.int .i64 b) ∧ w'.cell? ⟨w.heap.size, 4, none⟩ = some (.int .i64 r) ∧ w'.cell? ⟨w.heap.size, 5, none⟩ = some (.int .i64 f) ∧ w'.cell? ⟨w.heap.size, 6, none⟩ = some (.int .i64 g)) (first | with_reducible exact hS | fail) (first | (go_at_call 36; (with_reducible refine (shards_i p c n b r f g _ M.out).mono ?_); rintro e wy ⟨rfl, hby⟩; have bX := Blk7.below bX hby; have hC := Below.step hC hby; have hS := bX.1; clear hby) | fail)
  go_wp2
  go_ret
  exact ⟨rfl, hC⟩
set_option maxHeartbeats 1000000 in
theorem owner_out (p c n b r f g : Int) (x : Int) (w : World) (m : 1 ≤ p * c ∧ p * c ≤ 24) (hc : 1 ≤ c) (h : x < 0 ∨ p * c ≤ x) : Calls Tryd.prog 40 #[.agg #[.int .i64 p, .int .i64 c, .int .i64 n, .int .i64 b, .int .i64 r, .int .i64 f, .int .i64 g], .int .i64 x] w fun e w' => e = .returned (.int .i64 (-1)) ∧ Below w.heap.size w w' := by
  obtain ⟨m0, m1⟩ := m
  by_cases h0 : x < 0
  · have hd : decide (0 ≤ x) = false := decide_eq_false (by omega)
    clear h
    go_enter Tryd.func40, Tryd.ntmps40
    go_wp2
    go_ret
    exact ⟨rfl, by go_grown⟩
  · have h1 : 0 ≤ x := by omega
    have hd : decide (x < p * c) = false := decide_eq_false (by omega)
    clear h
    go_enter Tryd.func40, Tryd.ntmps40
    go_wp2
    go_ret
    exact ⟨rfl, by go_grown⟩
set_option maxHeartbeats 1000000 in
theorem own_out (p c n b r f g : Int) (x : Int) (w : World) (m : 1 ≤ p * c ∧ p * c ≤ 24) (hc : 1 ≤ c) (h : x < 0 ∨ p * c ≤ x) : Calls Tryd.prog 41 #[.agg #[.int .i64 p, .int .i64 c, .int .i64 n, .int .i64 b, .int .i64 r, .int .i64 f, .int .i64 g], .int .i64 x] w fun e w' => e = .returned (.int .i64 (-1)) ∧ Below w.heap.size w w' := by
  obtain ⟨m0, m1⟩ := m
  by_cases h0 : x < 0
  · have hd : decide (0 ≤ x) = false := decide_eq_false (by omega)
    clear h
    go_enter Tryd.func41, Tryd.ntmps41
    go_wp2
    go_ret
    exact ⟨rfl, by go_grown⟩
  · have h1 : 0 ≤ x := by omega
    have hd : decide (x < p * c) = false := decide_eq_false (by omega)
    clear h
    go_enter Tryd.func41, Tryd.ntmps41
    go_wp2
    go_ret
    exact ⟨rfl, by go_grown⟩
set_option maxHeartbeats 1000000 in
theorem parted_out (p c n b r f g : Int) (x : Int) (w : World) (m : 1 ≤ n * b ∧ n * b ≤ 12) (hb : 1 ≤ b) (hp : 1 ≤ p ∧ p ≤ 6) (h : x < 0 ∨ n * b ≤ x) : Calls Tryd.prog 42 #[.agg #[.int .i64 p, .int .i64 c, .int .i64 n, .int .i64 b, .int .i64 r, .int .i64 f, .int .i64 g], .int .i64 x] w fun e w' => e = .returned (.tuple #[.int .i64 (-1), .int .i64 (-1)]) ∧ Below w.heap.size w w' := by
  obtain ⟨m0, m1⟩ := m
  obtain ⟨p1, p2⟩ := hp
  by_cases h0 : x < 0
  · have hd : decide (0 ≤ x) = false := decide_eq_false (by omega)
    clear h
    go_enter Tryd.func42, Tryd.ntmps42
    go_wp2
    go_ret2
    exact ⟨rfl, by go_grown⟩
  · have h1 : 0 ≤ x := by omega
    have hd : decide (x < n * b) = false := decide_eq_false (by omega)
    clear h
    go_enter Tryd.func42, Tryd.ntmps42
    go_wp2
    go_ret2
    exact ⟨rfl, by go_grown⟩
set_option maxHeartbeats 1000000 in
theorem sweeper_out (p c n b r f g : Int) (x : Int) (w : World) (m : 1 ≤ n * b ∧ n * b ≤ 12) (hb : 1 ≤ b) (hp : 1 ≤ p ∧ p ≤ 6) (h : x < 0 ∨ n * b ≤ x) : Calls Tryd.prog 43 #[.agg #[.int .i64 p, .int .i64 c, .int .i64 n, .int .i64 b, .int .i64 r, .int .i64 f, .int .i64 g], .int .i64 x] w fun e w' => e = .returned (.int .i64 (-1)) ∧ Below w.heap.size w w' := by
  obtain ⟨m0, m1⟩ := m
  obtain ⟨p1, p2⟩ := hp
  by_cases h0 : x < 0
  · have hd : decide (0 ≤ x) = false := decide_eq_false (by omega)
    clear h
    go_enter Tryd.func43, Tryd.ntmps43
    go_wp2
    go_ret
    exact ⟨rfl, by go_grown⟩
  · have h1 : 0 ≤ x := by omega
    have hd : decide (x < n * b) = false := decide_eq_false (by omega)
    clear h
    go_enter Tryd.func43, Tryd.ntmps43
    go_wp2
    go_ret
    exact ⟨rfl, by go_grown⟩
set_option maxHeartbeats 1000000 in
theorem reaper_out (p c n b r f g : Int) (x : Int) (w : World) (m : 1 ≤ n * b ∧ n * b ≤ 12) (hb : 1 ≤ b) (hp : 1 ≤ p ∧ p ≤ 6) (h : x < 0 ∨ n * b ≤ x) : Calls Tryd.prog 44 #[.agg #[.int .i64 p, .int .i64 c, .int .i64 n, .int .i64 b, .int .i64 r, .int .i64 f, .int .i64 g], .int .i64 x] w fun e w' => e = .returned (.int .i64 (-1)) ∧ Below w.heap.size w w' := by
  obtain ⟨m0, m1⟩ := m
  obtain ⟨p1, p2⟩ := hp
  by_cases h0 : x < 0
  · have hd : decide (0 ≤ x) = false := decide_eq_false (by omega)
    clear h
    go_enter Tryd.func44, Tryd.ntmps44
    go_wp2
    go_ret
    exact ⟨rfl, by go_grown⟩
  · have h1 : 0 ≤ x := by omega
    have hd : decide (x < n * b) = false := decide_eq_false (by omega)
    clear h
    go_enter Tryd.func44, Tryd.ntmps44
    go_wp2
    go_ret
    exact ⟨rfl, by go_grown⟩
set_option maxHeartbeats 1000000 in
theorem cell_in (p c n b r f g : Int) (x y : Int) (w : World) (x0 : 0 ≤ x) (x1 : x < p) (y0 : 0 ≤ y) (y1 : y < c) (m : 0 ≤ x * c ∧ x * c ≤ 24) (hb : c ≤ 4) : Calls Tryd.prog 45 #[.agg #[.int .i64 p, .int .i64 c, .int .i64 n, .int .i64 b, .int .i64 r, .int .i64 f, .int .i64 g], .int .i64 x, .int .i64 y] w fun e w' => e = .returned (.int .i64 (x * c + y)) ∧ Below w.heap.size w w' := by
  obtain ⟨m0, m1⟩ := m
  go_enter Tryd.func45, Tryd.ntmps45
  go_wp2
  go_ret
  exact ⟨rfl, by go_grown⟩
set_option maxHeartbeats 1000000 in
theorem cell_out (p c n b r f g : Int) (x y : Int) (w : World) (h : ¬ (0 ≤ x ∧ x < p ∧ 0 ≤ y ∧ y < c)) : Calls Tryd.prog 45 #[.agg #[.int .i64 p, .int .i64 c, .int .i64 n, .int .i64 b, .int .i64 r, .int .i64 f, .int .i64 g], .int .i64 x, .int .i64 y] w fun e w' => e = .returned (.int .i64 (-1)) ∧ Below w.heap.size w w' := by
  by_cases h0 : x < 0
  · have hd : decide (0 ≤ x) = false := decide_eq_false (by omega)
    clear h
    go_enter Tryd.func45, Tryd.ntmps45
    go_wp2
    go_ret
    exact ⟨rfl, by go_grown⟩
  by_cases h1 : p ≤ x
  · have q0 : 0 ≤ x := by omega
    have hd : decide (x < p) = false := decide_eq_false (by omega)
    clear h
    go_enter Tryd.func45, Tryd.ntmps45
    go_wp2
    go_ret
    exact ⟨rfl, by go_grown⟩
  have q0 : 0 ≤ x := by omega
  have q1 : x < p := by omega
  by_cases h2 : y < 0
  · have hd : decide (0 ≤ y) = false := decide_eq_false (by omega)
    clear h
    go_enter Tryd.func45, Tryd.ntmps45
    go_wp2
    go_ret
    exact ⟨rfl, by go_grown⟩
  · have q2 : 0 ≤ y := by omega
    have hd : decide (y < c) = false := decide_eq_false (by omega)
    clear h
    go_enter Tryd.func45, Tryd.ntmps45
    go_wp2
    go_ret
    exact ⟨rfl, by go_grown⟩
set_option maxHeartbeats 1000000 in
theorem shard_in (p c n b r f g : Int) (x y : Int) (w : World) (x0 : 0 ≤ x) (x1 : x < n) (y0 : 0 ≤ y) (y1 : y < b) (m : 0 ≤ x * b ∧ x * b ≤ 24) (hb : b ≤ 4) : Calls Tryd.prog 46 #[.agg #[.int .i64 p, .int .i64 c, .int .i64 n, .int .i64 b, .int .i64 r, .int .i64 f, .int .i64 g], .int .i64 x, .int .i64 y] w fun e w' => e = .returned (.int .i64 (x * b + y)) ∧ Below w.heap.size w w' := by
  obtain ⟨m0, m1⟩ := m
  go_enter Tryd.func46, Tryd.ntmps46
  go_wp2
  go_ret
  exact ⟨rfl, by go_grown⟩
set_option maxHeartbeats 1000000 in
theorem shard_out (p c n b r f g : Int) (x y : Int) (w : World) (h : ¬ (0 ≤ x ∧ x < n ∧ 0 ≤ y ∧ y < b)) : Calls Tryd.prog 46 #[.agg #[.int .i64 p, .int .i64 c, .int .i64 n, .int .i64 b, .int .i64 r, .int .i64 f, .int .i64 g], .int .i64 x, .int .i64 y] w fun e w' => e = .returned (.int .i64 (-1)) ∧ Below w.heap.size w w' := by
  by_cases h0 : x < 0
  · have hd : decide (0 ≤ x) = false := decide_eq_false (by omega)
    clear h
    go_enter Tryd.func46, Tryd.ntmps46
    go_wp2
    go_ret
    exact ⟨rfl, by go_grown⟩
  by_cases h1 : n ≤ x
  · have q0 : 0 ≤ x := by omega
    have hd : decide (x < n) = false := decide_eq_false (by omega)
    clear h
    go_enter Tryd.func46, Tryd.ntmps46
    go_wp2
    go_ret
    exact ⟨rfl, by go_grown⟩
  have q0 : 0 ≤ x := by omega
  have q1 : x < n := by omega
  by_cases h2 : y < 0
  · have hd : decide (0 ≤ y) = false := decide_eq_false (by omega)
    clear h
    go_enter Tryd.func46, Tryd.ntmps46
    go_wp2
    go_ret
    exact ⟨rfl, by go_grown⟩
  · have q2 : 0 ≤ y := by omega
    have hd : decide (y < b) = false := decide_eq_false (by omega)
    clear h
    go_enter Tryd.func46, Tryd.ntmps46
    go_wp2
    go_ret
    exact ⟨rfl, by go_grown⟩
set_option maxHeartbeats 1000000 in
theorem words_i (p c n b r f g : Int) (w : World) (m : 1 ≤ p * c ∧ p * c ≤ 24) (hf : 1 ≤ f ∧ f ≤ 4) (k : 0 ≤ g * (f + 1) ∧ g * (f + 1) ≤ 75) (k2 : 0 ≤ p * c * (2 + g * (f + 1)) ∧ p * c * (2 + g * (f + 1)) ≤ 3000) : Calls Tryd.prog 38 #[.agg #[.int .i64 p, .int .i64 c, .int .i64 n, .int .i64 b, .int .i64 r, .int .i64 f, .int .i64 g]] w fun e w' => e = .returned (.int .i64 (p * c * (2 + g * (f + 1)))) ∧ Below w.heap.size w w' := by
  have M := Lib.hid m
  have HF := Lib.hid hf
  obtain ⟨m0, m1⟩ := m
  obtain ⟨f0, f1⟩ := hf
  obtain ⟨k0, k1⟩ := k
  obtain ⟨z0, z1⟩ := k2
  have W1 : IntKind.i64.wrap (g * (f + 1)) = g * (f + 1) := IntWalk.i64_in _ (by omega)
  have W2 : IntKind.i64.wrap (2 + g * (f + 1)) = 2 + g * (f + 1) := IntWalk.i64_in _ (by omega)
  have W3 : IntKind.i64.wrap (p * c * (2 + g * (f + 1))) = p * c * (2 + g * (f + 1)) := IntWalk.i64_in _ (by omega)
  have bX := Blk7.drew (Blk7.new w p c n b r f g 72)
  have hC : Below w.heap.size w (w.alloc (.cells #[.int .i64 p, .int .i64 c, .int .i64 n, .int .i64 b, .int .i64 r, .int .i64 f, .int .i64 g] 72)).drew := Below.drew (by go_grown)
  have hS := bX.1
  go_enter Tryd.func38, Tryd.ntmps38
  go_wp2_with fail
  go_region_held3 (fun w' => w'.cell? ⟨w.heap.size, 0, none⟩ = some (.int .i64 p) ∧ w'.cell? ⟨w.heap.size, 1, none⟩ = some (.int .i64 c) ∧ w'.cell? ⟨w.heap.size, 2, none⟩ = some (.int .i64 n) ∧ w'.cell? ⟨w.heap.size, 3, none⟩ = some (.int .i64 b) ∧ w'.cell? ⟨w.heap.size, 4, none⟩ = some (.int .i64 r) ∧ w'.cell? ⟨w.heap.size, 5, none⟩ = some (.int .i64 f) ∧ w'.cell? ⟨w.heap.size, 6, none⟩ = some (.int .i64 g)) (first | with_reducible exact hS | fail) (first | (go_at_call 35; (with_reducible refine (all_i p c n b r f g _ M.out).mono ?_); rintro e wy ⟨rfl, hby⟩; have bX := Blk7.below bX hby; have hC := Below.step hC hby; have hS := bX.1; clear hby) | (go_at_call 60; (with_reducible refine (slots_is p c n b r f g _ ⟨by have := HF.out.1; omega, HF.out.2⟩).mono ?_); rintro e wy ⟨rfl, hby⟩; have bX := Blk7.below bX hby; have hC := Below.step hC hby; have hS := bX.1; clear hby) | fail)
  go_wp2
  go_ret
  exact ⟨rfl, hC⟩
end Go.Proofs.YtjkojbaphdlhlaaDoor.Rc

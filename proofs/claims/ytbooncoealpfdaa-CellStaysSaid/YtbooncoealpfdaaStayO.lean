/-
  CellStays: of what is over.
-/
import Derived.Test.YtbooncoealpfdaaRows
import Derived.WalkKit
import Derived.ProofKit
import Derived.OpenShut
import Derived.ShutString
import Derived.Below
import Derived.Outline
import Derived.WalkLawsBesides
import Derived.WalkSpells
import Derived.Handy
import Derived.Deep.QuietTactic
import Derived.BigQuiet
import Derived.RegionTactic
import Derived.ChangeAlike
import Derived.Lib.Hide
import Derived.Deep.RegionHeld3
import Derived.Test.YtbooncoealpfdaaKit
import Derived.Test.YtbooncoealpfdaaCell2
namespace Go.Proofs.Ytbooncoealpfdaa.cellStays
open Go.ChangeShapes Go.WideShapes Go.ChangeAt Go.RowKit

theorem keep {k g l f : Int} {b : Bool} {w wx wy : World} (h : wx.cell? ⟨w.heap.size, 0, none⟩ = some (.int .i64 k) ∧ wx.cell? ⟨w.heap.size, 1, none⟩ = some (.bool b) ∧ wx.cell? ⟨w.heap.size, 2, none⟩ = some (.int .i64 g) ∧ wx.cell? ⟨w.heap.size, 3, none⟩ = some (.int .i64 l) ∧ wx.cell? ⟨w.heap.size, 4, none⟩ = some (.int .i64 f)) (hs : w.heap.size < wx.heap.size) (hb : Below wx.heap.size wx wy) : wy.cell? ⟨w.heap.size, 0, none⟩ = some (.int .i64 k) ∧ wy.cell? ⟨w.heap.size, 1, none⟩ = some (.bool b) ∧ wy.cell? ⟨w.heap.size, 2, none⟩ = some (.int .i64 g) ∧ wy.cell? ⟨w.heap.size, 3, none⟩ = some (.int .i64 l) ∧ wy.cell? ⟨w.heap.size, 4, none⟩ = some (.int .i64 f) :=
  ⟨(hb.cell (p := ⟨w.heap.size, 0, none⟩) hs).trans h.1, (hb.cell (p := ⟨w.heap.size, 1, none⟩) hs).trans h.2.1, (hb.cell (p := ⟨w.heap.size, 2, none⟩) hs).trans h.2.2.1, (hb.cell (p := ⟨w.heap.size, 3, none⟩) hs).trans h.2.2.2.1, (hb.cell (p := ⟨w.heap.size, 4, none⟩) hs).trans h.2.2.2.2⟩

set_option maxRecDepth 100000 in
set_option maxHeartbeats 4000000 in
theorem over_case (k g l f q m : Int) (b : Bool) (w : World) (h5 : 5 ≤ k) (h8 : k ≤ 8) :
    Calls Try.prog 7 #[.agg #[.int .i64 k, .bool b, .int .i64 g, .int .i64 l, .int .i64 f], .int .i64 q, .int .i64 m] w fun e w' => e = .returned (.bool true) ∧ Below w.heap.size w w' := by
  have e1 : k ≠ 1 := by omega
  have e2 : k ≠ 2 := by omega
  have e3 : k ≠ 3 := by omega
  have e4 : k ≠ 4 := by omega
  have hkk : (k == k) = true := by simp
  have hgg : (g == g) = true := by simp
  have hll : (l == l) = true := by simp
  have hff : (f == f) = true := by simp
  have hbb : (b == b) = true := by simp
  go_enter Try.func7, Try.ntmps7
  have hS0 : (w.alloc (Obj.cells #[.int .i64 k, .bool b, .int .i64 g, .int .i64 l, .int .i64 f] 56)).cell? ⟨w.heap.size, 0, none⟩ = some (.int .i64 k) ∧ (w.alloc (Obj.cells #[.int .i64 k, .bool b, .int .i64 g, .int .i64 l, .int .i64 f] 56)).cell? ⟨w.heap.size, 1, none⟩ = some (.bool b) ∧ (w.alloc (Obj.cells #[.int .i64 k, .bool b, .int .i64 g, .int .i64 l, .int .i64 f] 56)).cell? ⟨w.heap.size, 2, none⟩ = some (.int .i64 g) ∧ (w.alloc (Obj.cells #[.int .i64 k, .bool b, .int .i64 g, .int .i64 l, .int .i64 f] 56)).cell? ⟨w.heap.size, 3, none⟩ = some (.int .i64 l) ∧ (w.alloc (Obj.cells #[.int .i64 k, .bool b, .int .i64 g, .int .i64 l, .int .i64 f] 56)).cell? ⟨w.heap.size, 4, none⟩ = some (.int .i64 f) := ⟨by simp [go_sem], by simp [go_sem], by simp [go_sem], by simp [go_sem], by simp [go_sem]⟩
  go_wp2_with fail
  refine (over_yes _ _ _ _ _ _ h5 h8).mono ?_
  rintro e w1 ⟨rfl, hb1⟩
  obtain ⟨hc1, hf1⟩ := bcell hb1
  have hz1 := hb1.size
  have hB1 : Below w.heap.size w w1 := Below.step (by go_grown) hb1
  try simp only [World.size_alloc, World.size_setCell, World.size_drew] at hz1 hc1 hf1
  have hy1_0 : w.heap.size < w1.heap.size := by omega
  have hs1 := hB1.size
  have hS1 : w1.cell? ⟨w.heap.size, 0, none⟩ = some (.int .i64 k) ∧ w1.cell? ⟨w.heap.size, 1, none⟩ = some (.bool b) ∧ w1.cell? ⟨w.heap.size, 2, none⟩ = some (.int .i64 g) ∧ w1.cell? ⟨w.heap.size, 3, none⟩ = some (.int .i64 l) ∧ w1.cell? ⟨w.heap.size, 4, none⟩ = some (.int .i64 f) := keep hS0 (by simp) (Below.step (by go_grown) hb1)
  have hq1 : w.heap.size < w1.heap.size := by omega
  go_wp2_with fail
  refine (take_busy _ _ _ _ _ _ _ _ e1 e2).mono ?_
  rintro e w2 ⟨rfl, hb2⟩
  obtain ⟨hc2, hf2⟩ := bcell hb2
  have hz2 := hb2.size
  have hB2 : Below w.heap.size w w2 := Below.step (by go_grown) hb2
  try simp only [World.size_alloc, World.size_setCell, World.size_drew] at hz2 hc2 hf2
  have hy2_0 : w.heap.size < w2.heap.size := by omega
  have hs2 := hB2.size
  have hS2 : w2.cell? ⟨w.heap.size, 0, none⟩ = some (.int .i64 k) ∧ w2.cell? ⟨w.heap.size, 1, none⟩ = some (.bool b) ∧ w2.cell? ⟨w.heap.size, 2, none⟩ = some (.int .i64 g) ∧ w2.cell? ⟨w.heap.size, 3, none⟩ = some (.int .i64 l) ∧ w2.cell? ⟨w.heap.size, 4, none⟩ = some (.int .i64 f) := keep hS1 hq1 (Below.step (by go_grown) hb2)
  have hq2 : w.heap.size < w2.heap.size := by omega
  go_wp2_with fail
  refine (release_arg _ _ _ _ _ _ _ _ e3 e4).mono ?_
  rintro e w3 ⟨rfl, hb3⟩
  obtain ⟨hc3, hf3⟩ := bcell hb3
  have hz3 := hb3.size
  have hB3 : Below w.heap.size w w3 := Below.step (by go_grown) hb3
  try simp only [World.size_alloc, World.size_setCell, World.size_drew] at hz3 hc3 hf3
  have hy3_0 : w.heap.size < w3.heap.size := by omega
  have hs3 := hB3.size
  have hS3 : w3.cell? ⟨w.heap.size, 0, none⟩ = some (.int .i64 k) ∧ w3.cell? ⟨w.heap.size, 1, none⟩ = some (.bool b) ∧ w3.cell? ⟨w.heap.size, 2, none⟩ = some (.int .i64 g) ∧ w3.cell? ⟨w.heap.size, 3, none⟩ = some (.int .i64 l) ∧ w3.cell? ⟨w.heap.size, 4, none⟩ = some (.int .i64 f) := keep hS2 hq2 (Below.step (by go_grown) hb3)
  have hq3 : w.heap.size < w3.heap.size := by omega
  go_wp2_with fail
  refine (cancel_gone _ _ _ _ _ _ e1 e2 e3 e4).mono ?_
  rintro e w4 ⟨rfl, hb4⟩
  obtain ⟨hc4, hf4⟩ := bcell hb4
  have hz4 := hb4.size
  have hB4 : Below w.heap.size w w4 := Below.step (by go_grown) hb4
  try simp only [World.size_alloc, World.size_setCell, World.size_drew] at hz4 hc4 hf4
  have hy4_0 : w.heap.size < w4.heap.size := by omega
  have hs4 := hB4.size
  have hS4 : w4.cell? ⟨w.heap.size, 0, none⟩ = some (.int .i64 k) ∧ w4.cell? ⟨w.heap.size, 1, none⟩ = some (.bool b) ∧ w4.cell? ⟨w.heap.size, 2, none⟩ = some (.int .i64 g) ∧ w4.cell? ⟨w.heap.size, 3, none⟩ = some (.int .i64 l) ∧ w4.cell? ⟨w.heap.size, 4, none⟩ = some (.int .i64 f) := keep hS3 hq3 (Below.step (by go_grown) hb4)
  have hq4 : w.heap.size < w4.heap.size := by omega
  go_wp2_with fail
  refine (expire_busy _ _ _ _ _ _ e1 e2).mono ?_
  rintro e w5 ⟨rfl, hb5⟩
  obtain ⟨hc5, hf5⟩ := bcell hb5
  have hz5 := hb5.size
  have hB5 : Below w.heap.size w w5 := Below.step (by go_grown) hb5
  try simp only [World.size_alloc, World.size_setCell, World.size_drew] at hz5 hc5 hf5
  have hy5_0 : w.heap.size < w5.heap.size := by omega
  have hs5 := hB5.size
  have hS5 : w5.cell? ⟨w.heap.size, 0, none⟩ = some (.int .i64 k) ∧ w5.cell? ⟨w.heap.size, 1, none⟩ = some (.bool b) ∧ w5.cell? ⟨w.heap.size, 2, none⟩ = some (.int .i64 g) ∧ w5.cell? ⟨w.heap.size, 3, none⟩ = some (.int .i64 l) ∧ w5.cell? ⟨w.heap.size, 4, none⟩ = some (.int .i64 f) := keep hS4 hq4 (Below.step (by go_grown) hb5)
  have hq5 : w.heap.size < w5.heap.size := by omega
  go_wp2_with fail
  refine (promote_gone _ _ _ _ _ _ e1).mono ?_
  rintro e w6 ⟨rfl, hb6⟩
  obtain ⟨hc6, hf6⟩ := bcell hb6
  have hz6 := hb6.size
  have hB6 : Below w.heap.size w w6 := Below.step (by go_grown) hb6
  try simp only [World.size_alloc, World.size_setCell, World.size_drew] at hz6 hc6 hf6
  have hy6_0 : w.heap.size < w6.heap.size := by omega
  have hs6 := hB6.size
  have hS6 : w6.cell? ⟨w.heap.size, 0, none⟩ = some (.int .i64 k) ∧ w6.cell? ⟨w.heap.size, 1, none⟩ = some (.bool b) ∧ w6.cell? ⟨w.heap.size, 2, none⟩ = some (.int .i64 g) ∧ w6.cell? ⟨w.heap.size, 3, none⟩ = some (.int .i64 l) ∧ w6.cell? ⟨w.heap.size, 4, none⟩ = some (.int .i64 f) := keep hS5 hq5 (Below.step (by go_grown) hb6)
  have hq6 : w.heap.size < w6.heap.size := by omega
  go_wp2_with fail
  have hSb : (w6.alloc (Obj.cells #[.int .i64 0, .bool false, .int .i64 0, .int .i64 0, .int .i64 0] 56)).drew.cell? ⟨w.heap.size, 0, none⟩ = some (.int .i64 k) ∧ (w6.alloc (Obj.cells #[.int .i64 0, .bool false, .int .i64 0, .int .i64 0, .int .i64 0] 56)).drew.cell? ⟨w.heap.size, 1, none⟩ = some (.bool b) ∧ (w6.alloc (Obj.cells #[.int .i64 0, .bool false, .int .i64 0, .int .i64 0, .int .i64 0] 56)).drew.cell? ⟨w.heap.size, 2, none⟩ = some (.int .i64 g) ∧ (w6.alloc (Obj.cells #[.int .i64 0, .bool false, .int .i64 0, .int .i64 0, .int .i64 0] 56)).drew.cell? ⟨w.heap.size, 3, none⟩ = some (.int .i64 l) ∧ (w6.alloc (Obj.cells #[.int .i64 0, .bool false, .int .i64 0, .int .i64 0, .int .i64 0] 56)).drew.cell? ⟨w.heap.size, 4, none⟩ = some (.int .i64 f) := keep hS6 hq6 (Below.drew (by go_grown))
  have hqb : w.heap.size < (w6.alloc (Obj.cells #[.int .i64 0, .bool false, .int .i64 0, .int .i64 0, .int .i64 0] 56)).drew.heap.size := by simp only [World.size_drew, World.size_alloc]; omega
  have hBb : Below w.heap.size w (w6.alloc (Obj.cells #[.int .i64 0, .bool false, .int .i64 0, .int .i64 0, .int .i64 0] 56)).drew := Below.drew (by go_grown)
  go_region_held3 (fun w' => w'.cell? ⟨w.heap.size, 0, none⟩ = some (.int .i64 k) ∧ w'.cell? ⟨w.heap.size, 1, none⟩ = some (.bool b) ∧ w'.cell? ⟨w.heap.size, 2, none⟩ = some (.int .i64 g) ∧ w'.cell? ⟨w.heap.size, 3, none⟩ = some (.int .i64 l) ∧ w'.cell? ⟨w.heap.size, 4, none⟩ = some (.int .i64 f)) (first | exact hSb | exact hSu | exact hSz | exact hSy | fail)
    (first
      | ((with_reducible refine (awake32 _).mono ?_); rintro e wy ⟨rfl, hby⟩; have hSy := keep hSb hqb hby; have hqy : w.heap.size < wy.heap.size := Nat.lt_of_lt_of_le hqb hby.size; have hBy : Below w.heap.size w wy := Below.step hBb hby)
      | ((with_reducible refine (hold_same _ _ _ _ _ _ e1 e2).mono ?_); rintro e wz ⟨rfl, hbz⟩; have hSz := keep hSy hqy hbz; have hqz : w.heap.size < wz.heap.size := Nat.lt_of_lt_of_le hqy hbz.size; have hBz : Below w.heap.size w wz := Below.step hBy hbz)
      | ((with_reducible refine (live_no _ _ _ _ _ _ e1 e2 e3 e4).mono ?_); rintro e wu ⟨rfl, hbu⟩; have hSu := keep hSz hqz hbu; have hqu : w.heap.size < wu.heap.size := Nat.lt_of_lt_of_le hqz hbu.size; have hBu : Below w.heap.size w wu := Below.step hBz hbu)
      | fail)
  go_wp2
  go_ret
  exact ⟨rfl, hBu⟩
end Go.Proofs.Ytbooncoealpfdaa.cellStays

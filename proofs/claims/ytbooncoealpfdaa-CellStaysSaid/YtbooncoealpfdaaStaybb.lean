/-
  CellStays: bb.
-/
import Derived.Test.YtbooncoealpfdaaRows
import Derived.WalkKit
import Derived.ProofKit
import Derived.OpenShut
import Derived.ShutString
import Derived.Below
import Derived.Outline
import Derived.WalkLawsBesides
import Derived.WalkSpells
import Derived.Handy
import Derived.Deep.QuietTactic
import Derived.BigQuiet
import Derived.RegionTactic
import Derived.ChangeAlike
import Derived.Lib.Hide
import Derived.Deep.RegionHeld3
import Derived.Test.YtbooncoealpfdaaKit
import Derived.Test.YtbooncoealpfdaaCell2
import Derived.Test.YtbooncoealpfdaaStayO
namespace Go.Proofs.Ytbooncoealpfdaa.cellStays
open Go.ChangeShapes Go.WideShapes Go.ChangeAt Go.RowKit

set_option maxRecDepth 100000 in
set_option maxHeartbeats 4000000 in
theorem bb (k g l f q m kh k1 k2 f2 : Int) (b bh b1 b2 : Bool) (w : World) (ho : ∀ W, Calls Try.prog 26 #[.agg #[.int .i64 k, .bool b, .int .i64 g, .int .i64 l, .int .i64 f]] W fun e w' => e = .returned (.bool false) ∧ Below W.heap.size W w') (x3 : k1 ≠ 3) (x4 : k1 ≠ 4) (y3 : k2 ≠ 3) (y4 : k2 ≠ 4) (p1 : 1 ≤ q) (p2 : q ≤ l) (h5 : l ≤ 9223372036854775807) (h7 : f < 9223372036854775807) (h8 : -9223372036854775808 ≤ f)
    (hL : ∀ W, Calls Try.prog 36 #[.agg #[.int .i64 k, .bool b, .int .i64 g, .int .i64 l, .int .i64 f]] W fun e w' => e = .returned (.bool true) ∧ Below W.heap.size W w')
    (hT : ∀ W, Calls Try.prog 27 #[.agg #[.int .i64 k, .bool b, .int .i64 g, .int .i64 l, .int .i64 f], .int .i64 q, .int .i64 m] W (Got W k1 g (l - q) (f + 1) b1))
    (hH : ∀ W, Calls Try.prog 33 #[.agg #[.int .i64 k, .bool b, .int .i64 g, .int .i64 l, .int .i64 f]] W (St W kh g l f bh))
    (hR : ∀ W, Calls Try.prog 28 #[.agg #[.int .i64 kh, .bool bh, .int .i64 g, .int .i64 l, .int .i64 f], .int .i64 q, .int .i64 m] W (Got W k2 g (l - q) f2 b2)) :
    Calls Try.prog 7 #[.agg #[.int .i64 k, .bool b, .int .i64 g, .int .i64 l, .int .i64 f], .int .i64 q, .int .i64 m] w fun e w' => e = .returned (.bool true) ∧ Below w.heap.size w w' := by
  have HO := Lib.hid ho
  have HT := Lib.hid hT
  have HH := Lib.hid hH
  have HR := Lib.hid hR
  clear ho hT hH hR
  have hgg : (g != g) = false := by simp
  have hll : (l - q != l - q) = false := by simp
  have hl0 : (l != l) = false := by simp
  have hff : (f + 1 != f + 1) = false := by simp
  have hd : decide (0 < q) = true := decide_eq_true (by omega)
  have HL := Lib.hid hL
  clear hL
  go_enter Try.func7, Try.ntmps7
  have hS0 : (w.alloc (Obj.cells #[.int .i64 k, .bool b, .int .i64 g, .int .i64 l, .int .i64 f] 56)).cell? ⟨w.heap.size, 0, none⟩ = some (.int .i64 k) ∧ (w.alloc (Obj.cells #[.int .i64 k, .bool b, .int .i64 g, .int .i64 l, .int .i64 f] 56)).cell? ⟨w.heap.size, 1, none⟩ = some (.bool b) ∧ (w.alloc (Obj.cells #[.int .i64 k, .bool b, .int .i64 g, .int .i64 l, .int .i64 f] 56)).cell? ⟨w.heap.size, 2, none⟩ = some (.int .i64 g) ∧ (w.alloc (Obj.cells #[.int .i64 k, .bool b, .int .i64 g, .int .i64 l, .int .i64 f] 56)).cell? ⟨w.heap.size, 3, none⟩ = some (.int .i64 l) ∧ (w.alloc (Obj.cells #[.int .i64 k, .bool b, .int .i64 g, .int .i64 l, .int .i64 f] 56)).cell? ⟨w.heap.size, 4, none⟩ = some (.int .i64 f) := ⟨by simp [go_sem], by simp [go_sem], by simp [go_sem], by simp [go_sem], by simp [go_sem]⟩
  go_wp2_with fail
  refine (HO.out _).mono ?_
  rintro e w1 ⟨rfl, hb1⟩
  obtain ⟨hc1, hf1⟩ := bcell hb1
  have hz1 := hb1.size
  have hB1 : Below w.heap.size w w1 := Below.step (by go_grown) hb1
  try simp only [World.size_alloc, World.size_setCell, World.size_drew] at hz1 hc1 hf1
  have hy1_0 : w.heap.size < w1.heap.size := by omega
  have hs1 := hB1.size
  have hS1 : w1.cell? ⟨w.heap.size, 0, none⟩ = some (.int .i64 k) ∧ w1.cell? ⟨w.heap.size, 1, none⟩ = some (.bool b) ∧ w1.cell? ⟨w.heap.size, 2, none⟩ = some (.int .i64 g) ∧ w1.cell? ⟨w.heap.size, 3, none⟩ = some (.int .i64 l) ∧ w1.cell? ⟨w.heap.size, 4, none⟩ = some (.int .i64 f) := keep hS0 (by simp) (Below.step (by go_grown) hb1)
  have hq1 : w.heap.size < w1.heap.size := by omega
  go_wp2_with fail
  refine (HT.out _).mono ?_
  rintro e w2 ⟨rfl, hb2⟩
  obtain ⟨hc2, hf2⟩ := bcell hb2
  have hz2 := hb2.size
  have hB2 : Below w.heap.size w w2 := Below.step (by go_grown) hb2
  try simp only [World.size_alloc, World.size_setCell, World.size_drew] at hz2 hc2 hf2
  have hy2_0 : w.heap.size < w2.heap.size := by omega
  have hs2 := hB2.size
  have hS2 : w2.cell? ⟨w.heap.size, 0, none⟩ = some (.int .i64 k) ∧ w2.cell? ⟨w.heap.size, 1, none⟩ = some (.bool b) ∧ w2.cell? ⟨w.heap.size, 2, none⟩ = some (.int .i64 g) ∧ w2.cell? ⟨w.heap.size, 3, none⟩ = some (.int .i64 l) ∧ w2.cell? ⟨w.heap.size, 4, none⟩ = some (.int .i64 f) := keep hS1 hq1 (Below.step (by go_grown) hb2)
  have hq2 : w.heap.size < w2.heap.size := by omega
  go_wp2_with fail
  refine (held_no _ _ _ _ _ _ x3 x4).mono ?_
  rintro e w3 ⟨rfl, hb3⟩
  obtain ⟨hc3, hf3⟩ := bcell hb3
  have hz3 := hb3.size
  have hB3 : Below w.heap.size w w3 := Below.step (by go_grown) hb3
  try simp only [World.size_alloc, World.size_setCell, World.size_drew] at hz3 hc3 hf3
  have hy3_0 : w.heap.size < w3.heap.size := by omega
  have hy3_1 : w2.heap.size < w3.heap.size := by omega
  have hs3 := hB3.size
  have hS3 : w3.cell? ⟨w.heap.size, 0, none⟩ = some (.int .i64 k) ∧ w3.cell? ⟨w.heap.size, 1, none⟩ = some (.bool b) ∧ w3.cell? ⟨w.heap.size, 2, none⟩ = some (.int .i64 g) ∧ w3.cell? ⟨w.heap.size, 3, none⟩ = some (.int .i64 l) ∧ w3.cell? ⟨w.heap.size, 4, none⟩ = some (.int .i64 f) := keep hS2 hq2 (Below.step (by go_grown) hb3)
  have hq3 : w.heap.size < w3.heap.size := by omega
  go_wp2_with fail
  refine (HH.out _).mono ?_
  rintro e w4 ⟨rfl, hb4⟩
  obtain ⟨hc4, hf4⟩ := bcell hb4
  have hz4 := hb4.size
  have hB4 : Below w.heap.size w w4 := Below.step (by go_grown) hb4
  try simp only [World.size_alloc, World.size_setCell, World.size_drew] at hz4 hc4 hf4
  have hy4_0 : w.heap.size < w4.heap.size := by omega
  have hy4_1 : w2.heap.size < w4.heap.size := by omega
  have hs4 := hB4.size
  have hS4 : w4.cell? ⟨w.heap.size, 0, none⟩ = some (.int .i64 k) ∧ w4.cell? ⟨w.heap.size, 1, none⟩ = some (.bool b) ∧ w4.cell? ⟨w.heap.size, 2, none⟩ = some (.int .i64 g) ∧ w4.cell? ⟨w.heap.size, 3, none⟩ = some (.int .i64 l) ∧ w4.cell? ⟨w.heap.size, 4, none⟩ = some (.int .i64 f) := keep hS3 hq3 (Below.step (by go_grown) hb4)
  have hq4 : w.heap.size < w4.heap.size := by omega
  go_wp2_with fail
  refine (HR.out _).mono ?_
  rintro e w5 ⟨rfl, hb5⟩
  obtain ⟨hc5, hf5⟩ := bcell hb5
  have hz5 := hb5.size
  have hB5 : Below w.heap.size w w5 := Below.step (by go_grown) hb5
  try simp only [World.size_alloc, World.size_setCell, World.size_drew] at hz5 hc5 hf5
  have hy5_0 : w.heap.size < w5.heap.size := by omega
  have hy5_1 : w2.heap.size < w5.heap.size := by omega
  have hs5 := hB5.size
  have hS5 : w5.cell? ⟨w.heap.size, 0, none⟩ = some (.int .i64 k) ∧ w5.cell? ⟨w.heap.size, 1, none⟩ = some (.bool b) ∧ w5.cell? ⟨w.heap.size, 2, none⟩ = some (.int .i64 g) ∧ w5.cell? ⟨w.heap.size, 3, none⟩ = some (.int .i64 l) ∧ w5.cell? ⟨w.heap.size, 4, none⟩ = some (.int .i64 f) := keep hS4 hq4 (Below.step (by go_grown) hb5)
  have hq5 : w.heap.size < w5.heap.size := by omega
  go_wp2_with fail
  refine (held_no _ _ _ _ _ _ y3 y4).mono ?_
  rintro e w6 ⟨rfl, hb6⟩
  obtain ⟨hc6, hf6⟩ := bcell hb6
  have hz6 := hb6.size
  have hB6 : Below w.heap.size w w6 := Below.step (by go_grown) hb6
  try simp only [World.size_alloc, World.size_setCell, World.size_drew] at hz6 hc6 hf6
  have hy6_0 : w.heap.size < w6.heap.size := by omega
  have hy6_1 : w2.heap.size < w6.heap.size := by omega
  have hy6_2 : w5.heap.size < w6.heap.size := by omega
  have hs6 := hB6.size
  have hS6 : w6.cell? ⟨w.heap.size, 0, none⟩ = some (.int .i64 k) ∧ w6.cell? ⟨w.heap.size, 1, none⟩ = some (.bool b) ∧ w6.cell? ⟨w.heap.size, 2, none⟩ = some (.int .i64 g) ∧ w6.cell? ⟨w.heap.size, 3, none⟩ = some (.int .i64 l) ∧ w6.cell? ⟨w.heap.size, 4, none⟩ = some (.int .i64 f) := keep hS5 hq5 (Below.step (by go_grown) hb6)
  have hq6 : w.heap.size < w6.heap.size := by omega
  go_wp2_with fail
  have hSb : w6.drew.cell? ⟨w.heap.size, 0, none⟩ = some (.int .i64 k) ∧ w6.drew.cell? ⟨w.heap.size, 1, none⟩ = some (.bool b) ∧ w6.drew.cell? ⟨w.heap.size, 2, none⟩ = some (.int .i64 g) ∧ w6.drew.cell? ⟨w.heap.size, 3, none⟩ = some (.int .i64 l) ∧ w6.drew.cell? ⟨w.heap.size, 4, none⟩ = some (.int .i64 f) := keep hS6 hq6 (Below.drew (by go_grown))
  have hqb : w.heap.size < w6.drew.heap.size := by simp only [World.size_drew, World.size_alloc]; omega
  have hBb : Below w.heap.size w w6.drew := Below.drew (by go_grown)
  first
  | go_region_held3 (fun w' => w'.cell? ⟨w.heap.size, 0, none⟩ = some (.int .i64 k) ∧ w'.cell? ⟨w.heap.size, 1, none⟩ = some (.bool b) ∧ w'.cell? ⟨w.heap.size, 2, none⟩ = some (.int .i64 g) ∧ w'.cell? ⟨w.heap.size, 3, none⟩ = some (.int .i64 l) ∧ w'.cell? ⟨w.heap.size, 4, none⟩ = some (.int .i64 f)) (first | exact hSb | exact hSz | exact hSy | fail)
    (first
      | ((with_reducible refine (awake32 _).mono ?_); rintro e wy ⟨rfl, hby⟩; have hSy := keep hSb hqb hby; have hqy : w.heap.size < wy.heap.size := Nat.lt_of_lt_of_le hqb hby.size; have hBy : Below w.heap.size w wy := Below.step hBb hby)
      | ((with_reducible refine (HL.out _).mono ?_); rintro e wz ⟨rfl, hbz⟩; have hSz := keep hSy hqy hbz; have hqz : w.heap.size < wz.heap.size := Nat.lt_of_lt_of_le hqy hbz.size; have hBz : Below w.heap.size w wz := Below.step hBy hbz)
      | fail)
  | fail
  all_goals go_wp2
  all_goals go_ret
  all_goals exact ⟨rfl, hBz⟩
end Go.Proofs.Ytbooncoealpfdaa.cellStays

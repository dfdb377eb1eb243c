/-
  CellStays: where Take is refused.
-/
import Derived.Test.YtbooncoealpfdaaRows
import Derived.WalkKit
import Derived.ProofKit
import Derived.OpenShut
import Derived.ShutString
import Derived.Below
import Derived.Outline
import Derived.WalkLawsBesides
import Derived.WalkSpells
import Derived.Handy
import Derived.Deep.QuietTactic
import Derived.BigQuiet
import Derived.RegionTactic
import Derived.ChangeAlike
import Derived.Lib.Hide
import Derived.Deep.RegionHeld3
import Derived.Test.YtbooncoealpfdaaKit
import Derived.Test.YtbooncoealpfdaaCell2
import Derived.Test.YtbooncoealpfdaaStayO
namespace Go.Proofs.Ytbooncoealpfdaa.cellStays
open Go.ChangeShapes Go.WideShapes Go.ChangeAt Go.RowKit

def Cl (w wx : World) : Prop := Below w.heap.size w wx
theorem awake_cls {w wx : World} (h : Cl w wx) : Calls Try.prog 32 #[] wx fun e w' => e = .returned (.bool true) ∧ Cl w w' := (awake32 wx).mono fun _ _ ⟨he, hb⟩ => ⟨he, Below.step h hb⟩
theorem region_cls {P : Program} {id : Nat} {Q : Exit → Act → World → Prop} {a : Act} {w W : World} {l : List Oper} (hm : P.follows .mixedOrders = true) (hB : Region.lexB .any l.toArray = true) (hC : Cl w W.drew)
    (h : wpQuiet P l.toArray (Cl w) (fun a' => ∀ w', Cl w w' → Q .normal a' w') l a) : (Code.region id l.toArray true).wp P Q a W := wp_region_quiet (C := Cl w) hm hB hC (by simpa using h)

set_option maxRecDepth 100000 in
set_option maxHeartbeats 4000000 in
theorem nn (k g l f q m kh c1 c2 : Int) (b bh b1 b2 : Bool) (w : World) (ho : ∀ W, Calls Try.prog 26 #[.agg #[.int .i64 k, .bool b, .int .i64 g, .int .i64 l, .int .i64 f]] W fun e w' => e = .returned (.bool false) ∧ Below W.heap.size W w') 
    (hT : ∀ W, Calls Try.prog 27 #[.agg #[.int .i64 k, .bool b, .int .i64 g, .int .i64 l, .int .i64 f], .int .i64 q, .int .i64 m] W (Bad W c1))
    (hH : ∀ W, Calls Try.prog 33 #[.agg #[.int .i64 k, .bool b, .int .i64 g, .int .i64 l, .int .i64 f]] W (St W kh g l f bh))
    (hR : ∀ W, Calls Try.prog 28 #[.agg #[.int .i64 kh, .bool bh, .int .i64 g, .int .i64 l, .int .i64 f], .int .i64 q, .int .i64 m] W (Bad W c2)) :
    Calls Try.prog 7 #[.agg #[.int .i64 k, .bool b, .int .i64 g, .int .i64 l, .int .i64 f], .int .i64 q, .int .i64 m] w fun e w' => e = .returned (.bool true) ∧ Below w.heap.size w w' := by
  have HO := Lib.hid ho
  have HT := Lib.hid hT
  have HH := Lib.hid hH
  have HR := Lib.hid hR
  clear ho hT hH hR
  have hgg : (g != g) = false := by simp
  have hll : (l - q != l - q) = false := by simp
  have hl0 : (l != l) = false := by simp
  have hff : (f + 1 != f + 1) = false := by simp
  go_enter Try.func7, Try.ntmps7
  have hS0 : (w.alloc (Obj.cells #[.int .i64 k, .bool b, .int .i64 g, .int .i64 l, .int .i64 f] 56)).cell? ⟨w.heap.size, 0, none⟩ = some (.int .i64 k) ∧ (w.alloc (Obj.cells #[.int .i64 k, .bool b, .int .i64 g, .int .i64 l, .int .i64 f] 56)).cell? ⟨w.heap.size, 1, none⟩ = some (.bool b) ∧ (w.alloc (Obj.cells #[.int .i64 k, .bool b, .int .i64 g, .int .i64 l, .int .i64 f] 56)).cell? ⟨w.heap.size, 2, none⟩ = some (.int .i64 g) ∧ (w.alloc (Obj.cells #[.int .i64 k, .bool b, .int .i64 g, .int .i64 l, .int .i64 f] 56)).cell? ⟨w.heap.size, 3, none⟩ = some (.int .i64 l) ∧ (w.alloc (Obj.cells #[.int .i64 k, .bool b, .int .i64 g, .int .i64 l, .int .i64 f] 56)).cell? ⟨w.heap.size, 4, none⟩ = some (.int .i64 f) := ⟨by simp [go_sem], by simp [go_sem], by simp [go_sem], by simp [go_sem], by simp [go_sem]⟩
  go_wp2_with fail
  refine (HO.out _).mono ?_
  rintro e w1 ⟨rfl, hb1⟩
  obtain ⟨hc1, hf1⟩ := bcell hb1
  have hz1 := hb1.size
  have hB1 : Below w.heap.size w w1 := Below.step (by go_grown) hb1
  try simp only [World.size_alloc, World.size_setCell, World.size_drew] at hz1 hc1 hf1
  have hy1_0 : w.heap.size < w1.heap.size := by omega
  have hs1 := hB1.size
  have hS1 : w1.cell? ⟨w.heap.size, 0, none⟩ = some (.int .i64 k) ∧ w1.cell? ⟨w.heap.size, 1, none⟩ = some (.bool b) ∧ w1.cell? ⟨w.heap.size, 2, none⟩ = some (.int .i64 g) ∧ w1.cell? ⟨w.heap.size, 3, none⟩ = some (.int .i64 l) ∧ w1.cell? ⟨w.heap.size, 4, none⟩ = some (.int .i64 f) := keep hS0 (by simp) (Below.step (by go_grown) hb1)
  have hq1 : w.heap.size < w1.heap.size := by omega
  go_wp2_with fail
  refine (HT.out _).mono ?_
  rintro e w2 ⟨rfl, hb2⟩
  obtain ⟨hc2, hf2⟩ := bcell hb2
  have hz2 := hb2.size
  have hB2 : Below w.heap.size w w2 := Below.step (by go_grown) hb2
  try simp only [World.size_alloc, World.size_setCell, World.size_drew] at hz2 hc2 hf2
  have hy2_0 : w.heap.size < w2.heap.size := by omega
  have hs2 := hB2.size
  have hS2 : w2.cell? ⟨w.heap.size, 0, none⟩ = some (.int .i64 k) ∧ w2.cell? ⟨w.heap.size, 1, none⟩ = some (.bool b) ∧ w2.cell? ⟨w.heap.size, 2, none⟩ = some (.int .i64 g) ∧ w2.cell? ⟨w.heap.size, 3, none⟩ = some (.int .i64 l) ∧ w2.cell? ⟨w.heap.size, 4, none⟩ = some (.int .i64 f) := keep hS1 hq1 (Below.step (by go_grown) hb2)
  have hq2 : w.heap.size < w2.heap.size := by omega
  go_wp2_with fail
  refine (HH.out _).mono ?_
  rintro e w3 ⟨rfl, hb3⟩
  obtain ⟨hc3, hf3⟩ := bcell hb3
  have hz3 := hb3.size
  have hB3 : Below w.heap.size w w3 := Below.step (by go_grown) hb3
  try simp only [World.size_alloc, World.size_setCell, World.size_drew] at hz3 hc3 hf3
  have hy3_0 : w.heap.size < w3.heap.size := by omega
  have hy3_1 : w2.heap.size < w3.heap.size := by omega
  have hs3 := hB3.size
  have hS3 : w3.cell? ⟨w.heap.size, 0, none⟩ = some (.int .i64 k) ∧ w3.cell? ⟨w.heap.size, 1, none⟩ = some (.bool b) ∧ w3.cell? ⟨w.heap.size, 2, none⟩ = some (.int .i64 g) ∧ w3.cell? ⟨w.heap.size, 3, none⟩ = some (.int .i64 l) ∧ w3.cell? ⟨w.heap.size, 4, none⟩ = some (.int .i64 f) := keep hS2 hq2 (Below.step (by go_grown) hb3)
  have hq3 : w.heap.size < w3.heap.size := by omega
  go_wp2_with fail
  refine (HR.out _).mono ?_
  rintro e w4 ⟨rfl, hb4⟩
  obtain ⟨hc4, hf4⟩ := bcell hb4
  have hz4 := hb4.size
  have hB4 : Below w.heap.size w w4 := Below.step (by go_grown) hb4
  try simp only [World.size_alloc, World.size_setCell, World.size_drew] at hz4 hc4 hf4
  have hy4_0 : w.heap.size < w4.heap.size := by omega
  have hy4_1 : w2.heap.size < w4.heap.size := by omega
  have hs4 := hB4.size
  have hS4 : w4.cell? ⟨w.heap.size, 0, none⟩ = some (.int .i64 k) ∧ w4.cell? ⟨w.heap.size, 1, none⟩ = some (.bool b) ∧ w4.cell? ⟨w.heap.size, 2, none⟩ = some (.int .i64 g) ∧ w4.cell? ⟨w.heap.size, 3, none⟩ = some (.int .i64 l) ∧ w4.cell? ⟨w.heap.size, 4, none⟩ = some (.int .i64 f) := keep hS3 hq3 (Below.step (by go_grown) hb4)
  have hq4 : w.heap.size < w4.heap.size := by omega
  go_wp2_with fail
  have hBb : Cl w (w4.alloc (Obj.cells #[.int .i64 0, .bool false, .int .i64 0, .int .i64 0, .int .i64 0] 56)).drew := Below.drew (by go_grown)
  clear hc1 hf1 hz1 hb1 hS1 hy1_0 hs1
  clear hc2 hf2 hz2 hb2 hS2 hy2_0 hs2
  clear hc3 hf3 hz3 hb3 hS3 hy3_0 hs3
  clear hc4 hf4 hz4 hb4 hS4 hy4_0 hs4
  clear hS0
  refine region_cls (by kernel_rfl) (by kernel_rfl) hBb ?_
  go_big_quiet_want
  go_big_quiet_op
  refine ⟨.bool true, fun wq hq => awake_cls hq, ?_⟩
  go_big_quiet_on
  repeat (first | go_big_quiet_skip | (go_big_quiet_want; go_big_quiet_op; first | go_big_quiet_on | (refine ⟨_, fun _ _ => rfl, ?_⟩; go_big_quiet_on)))
  refine wpQuiet_nil ?_
  intro wz hz
  have hBy : Below w.heap.size w wz := hz
  all_goals go_wp2
  all_goals go_ret
  all_goals exact ⟨rfl, hBy⟩

set_option maxRecDepth 100000 in
set_option maxHeartbeats 4000000 in
theorem nr0 (k g l f m kh c1 k2 f2 : Int) (b bh b1 b2 : Bool) (w : World) (ho : ∀ W, Calls Try.prog 26 #[.agg #[.int .i64 k, .bool b, .int .i64 g, .int .i64 l, .int .i64 f]] W fun e w' => e = .returned (.bool false) ∧ Below W.heap.size W w') (y3 : k2 ≠ 3) (y4 : k2 ≠ 4) (l0 : 0 ≤ l) (l1 : l ≤ 9223372036854775807)
    (hT : ∀ W, Calls Try.prog 27 #[.agg #[.int .i64 k, .bool b, .int .i64 g, .int .i64 l, .int .i64 f], .int .i64 0, .int .i64 m] W (Bad W c1))
    (hH : ∀ W, Calls Try.prog 33 #[.agg #[.int .i64 k, .bool b, .int .i64 g, .int .i64 l, .int .i64 f]] W (St W kh g l f bh))
    (hR : ∀ W, Calls Try.prog 28 #[.agg #[.int .i64 kh, .bool bh, .int .i64 g, .int .i64 l, .int .i64 f], .int .i64 0, .int .i64 m] W (Got W k2 g l f2 b2)) :
    Calls Try.prog 7 #[.agg #[.int .i64 k, .bool b, .int .i64 g, .int .i64 l, .int .i64 f], .int .i64 0, .int .i64 m] w fun e w' => e = .returned (.bool true) ∧ Below w.heap.size w w' := by
  have HO := Lib.hid ho
  have HT := Lib.hid hT
  have HH := Lib.hid hH
  have HR := Lib.hid hR
  clear ho hT hH hR
  have hgg : (g != g) = false := by simp
  have hl0 : (l != l) = false := by simp
  have hff : (f + 1 != f + 1) = false := by simp
  go_enter Try.func7, Try.ntmps7
  have hS0 : (w.alloc (Obj.cells #[.int .i64 k, .bool b, .int .i64 g, .int .i64 l, .int .i64 f] 56)).cell? ⟨w.heap.size, 0, none⟩ = some (.int .i64 k) ∧ (w.alloc (Obj.cells #[.int .i64 k, .bool b, .int .i64 g, .int .i64 l, .int .i64 f] 56)).cell? ⟨w.heap.size, 1, none⟩ = some (.bool b) ∧ (w.alloc (Obj.cells #[.int .i64 k, .bool b, .int .i64 g, .int .i64 l, .int .i64 f] 56)).cell? ⟨w.heap.size, 2, none⟩ = some (.int .i64 g) ∧ (w.alloc (Obj.cells #[.int .i64 k, .bool b, .int .i64 g, .int .i64 l, .int .i64 f] 56)).cell? ⟨w.heap.size, 3, none⟩ = some (.int .i64 l) ∧ (w.alloc (Obj.cells #[.int .i64 k, .bool b, .int .i64 g, .int .i64 l, .int .i64 f] 56)).cell? ⟨w.heap.size, 4, none⟩ = some (.int .i64 f) := ⟨by simp [go_sem], by simp [go_sem], by simp [go_sem], by simp [go_sem], by simp [go_sem]⟩
  go_wp2_with fail
  refine (HO.out _).mono ?_
  rintro e w1 ⟨rfl, hb1⟩
  obtain ⟨hc1, hf1⟩ := bcell hb1
  have hz1 := hb1.size
  have hB1 : Below w.heap.size w w1 := Below.step (by go_grown) hb1
  try simp only [World.size_alloc, World.size_setCell, World.size_drew] at hz1 hc1 hf1
  have hy1_0 : w.heap.size < w1.heap.size := by omega
  have hs1 := hB1.size
  have hS1 : w1.cell? ⟨w.heap.size, 0, none⟩ = some (.int .i64 k) ∧ w1.cell? ⟨w.heap.size, 1, none⟩ = some (.bool b) ∧ w1.cell? ⟨w.heap.size, 2, none⟩ = some (.int .i64 g) ∧ w1.cell? ⟨w.heap.size, 3, none⟩ = some (.int .i64 l) ∧ w1.cell? ⟨w.heap.size, 4, none⟩ = some (.int .i64 f) := keep hS0 (by simp) (Below.step (by go_grown) hb1)
  have hq1 : w.heap.size < w1.heap.size := by omega
  go_wp2_with fail
  refine (HT.out _).mono ?_
  rintro e w2 ⟨rfl, hb2⟩
  obtain ⟨hc2, hf2⟩ := bcell hb2
  have hz2 := hb2.size
  have hB2 : Below w.heap.size w w2 := Below.step (by go_grown) hb2
  try simp only [World.size_alloc, World.size_setCell, World.size_drew] at hz2 hc2 hf2
  have hy2_0 : w.heap.size < w2.heap.size := by omega
  have hs2 := hB2.size
  have hS2 : w2.cell? ⟨w.heap.size, 0, none⟩ = some (.int .i64 k) ∧ w2.cell? ⟨w.heap.size, 1, none⟩ = some (.bool b) ∧ w2.cell? ⟨w.heap.size, 2, none⟩ = some (.int .i64 g) ∧ w2.cell? ⟨w.heap.size, 3, none⟩ = some (.int .i64 l) ∧ w2.cell? ⟨w.heap.size, 4, none⟩ = some (.int .i64 f) := keep hS1 hq1 (Below.step (by go_grown) hb2)
  have hq2 : w.heap.size < w2.heap.size := by omega
  go_wp2_with fail
  refine (HH.out _).mono ?_
  rintro e w3 ⟨rfl, hb3⟩
  obtain ⟨hc3, hf3⟩ := bcell hb3
  have hz3 := hb3.size
  have hB3 : Below w.heap.size w w3 := Below.step (by go_grown) hb3
  try simp only [World.size_alloc, World.size_setCell, World.size_drew] at hz3 hc3 hf3
  have hy3_0 : w.heap.size < w3.heap.size := by omega
  have hy3_1 : w2.heap.size < w3.heap.size := by omega
  have hs3 := hB3.size
  have hS3 : w3.cell? ⟨w.heap.size, 0, none⟩ = some (.int .i64 k) ∧ w3.cell? ⟨w.heap.size, 1, none⟩ = some (.bool b) ∧ w3.cell? ⟨w.heap.size, 2, none⟩ = some (.int .i64 g) ∧ w3.cell? ⟨w.heap.size, 3, none⟩ = some (.int .i64 l) ∧ w3.cell? ⟨w.heap.size, 4, none⟩ = some (.int .i64 f) := keep hS2 hq2 (Below.step (by go_grown) hb3)
  have hq3 : w.heap.size < w3.heap.size := by omega
  go_wp2_with fail
  refine (HR.out _).mono ?_
  rintro e w4 ⟨rfl, hb4⟩
  obtain ⟨hc4, hf4⟩ := bcell hb4
  have hz4 := hb4.size
  have hB4 : Below w.heap.size w w4 := Below.step (by go_grown) hb4
  try simp only [World.size_alloc, World.size_setCell, World.size_drew] at hz4 hc4 hf4
  have hy4_0 : w.heap.size < w4.heap.size := by omega
  have hy4_1 : w2.heap.size < w4.heap.size := by omega
  have hs4 := hB4.size
  have hS4 : w4.cell? ⟨w.heap.size, 0, none⟩ = some (.int .i64 k) ∧ w4.cell? ⟨w.heap.size, 1, none⟩ = some (.bool b) ∧ w4.cell? ⟨w.heap.size, 2, none⟩ = some (.int .i64 g) ∧ w4.cell? ⟨w.heap.size, 3, none⟩ = some (.int .i64 l) ∧ w4.cell? ⟨w.heap.size, 4, none⟩ = some (.int .i64 f) := keep hS3 hq3 (Below.step (by go_grown) hb4)
  have hq4 : w.heap.size < w4.heap.size := by omega
  go_wp2_with fail
  refine (held_no _ _ _ _ _ _ y3 y4).mono ?_
  rintro e w5 ⟨rfl, hb5⟩
  obtain ⟨hc5, hf5⟩ := bcell hb5
  have hz5 := hb5.size
  have hB5 : Below w.heap.size w w5 := Below.step (by go_grown) hb5
  try simp only [World.size_alloc, World.size_setCell, World.size_drew] at hz5 hc5 hf5
  have hy5_0 : w.heap.size < w5.heap.size := by omega
  have hy5_1 : w2.heap.size < w5.heap.size := by omega
  have hy5_2 : w4.heap.size < w5.heap.size := by omega
  have hs5 := hB5.size
  have hS5 : w5.cell? ⟨w.heap.size, 0, none⟩ = some (.int .i64 k) ∧ w5.cell? ⟨w.heap.size, 1, none⟩ = some (.bool b) ∧ w5.cell? ⟨w.heap.size, 2, none⟩ = some (.int .i64 g) ∧ w5.cell? ⟨w.heap.size, 3, none⟩ = some (.int .i64 l) ∧ w5.cell? ⟨w.heap.size, 4, none⟩ = some (.int .i64 f) := keep hS4 hq4 (Below.step (by go_grown) hb5)
  have hq5 : w.heap.size < w5.heap.size := by omega
  go_wp2_with fail
  have hBb : Cl w w5.drew := Below.drew (by go_grown)
  clear hc1 hf1 hz1 hb1 hS1 hy1_0 hs1
  clear hc2 hf2 hz2 hb2 hS2 hy2_0 hs2
  clear hc3 hf3 hz3 hb3 hS3 hy3_0 hs3
  clear hc4 hf4 hz4 hb4 hS4 hy4_0 hs4
  clear hc5 hf5 hz5 hb5 hS5 hy5_0 hs5
  clear hS0
  refine region_cls (by kernel_rfl) (by kernel_rfl) hBb ?_
  go_big_quiet_want
  go_big_quiet_op
  refine ⟨.bool true, fun wq hq => awake_cls hq, ?_⟩
  go_big_quiet_on
  repeat (first | go_big_quiet_skip | (go_big_quiet_want; go_big_quiet_op; first | go_big_quiet_on | (refine ⟨_, fun _ _ => rfl, ?_⟩; go_big_quiet_on)))
  refine wpQuiet_nil ?_
  intro wz hz
  have hBy : Below w.heap.size w wz := hz
  all_goals go_wp2
  all_goals go_ret
  all_goals exact ⟨rfl, hBy⟩

def Cz (w : World) (k g l f : Int) (b : Bool) (wx : World) : Prop := (wx.cell? ⟨w.heap.size, 0, none⟩ = some (.int .i64 k) ∧ wx.cell? ⟨w.heap.size, 1, none⟩ = some (.bool b) ∧ wx.cell? ⟨w.heap.size, 2, none⟩ = some (.int .i64 g) ∧ wx.cell? ⟨w.heap.size, 3, none⟩ = some (.int .i64 l) ∧ wx.cell? ⟨w.heap.size, 4, none⟩ = some (.int .i64 f)) ∧ w.heap.size < wx.heap.size ∧ Below w.heap.size w wx
theorem Cz.below {w wx wy : World} {k g l f : Int} {b : Bool} (h : Cz w k g l f b wx) (hb : Below wx.heap.size wx wy) : Cz w k g l f b wy := ⟨keep h.1 h.2.1 hb, Nat.lt_of_lt_of_le h.2.1 hb.size, Below.step h.2.2 hb⟩
theorem awake_cz {w wx : World} {k g l f : Int} {b : Bool} (h : Cz w k g l f b wx) : Calls Try.prog 32 #[] wx fun e w' => e = .returned (.bool true) ∧ Cz w k g l f b w' := (awake32 wx).mono fun _ _ ⟨he, hb⟩ => ⟨he, h.below hb⟩
theorem loose_cz {w wx : World} {k g l f : Int} {b : Bool} (z1 : k ≠ 1) (z2 : k ≠ 2) (h : Cz w k g l f b wx) : Calls Try.prog 36 #[.agg #[.int .i64 k, .bool b, .int .i64 g, .int .i64 l, .int .i64 f]] wx fun e w' => e = .returned (.bool false) ∧ Cz w k g l f b w' := (loose_no _ _ _ _ _ wx z1 z2).mono fun _ _ ⟨he, hb⟩ => ⟨he, h.below hb⟩
theorem region_cz {P : Program} {id : Nat} {Q : Exit → Act → World → Prop} {a : Act} {w W : World} {k g l f : Int} {b : Bool} {l' : List Oper} (hm : P.follows .mixedOrders = true) (hB : Region.lexB .any l'.toArray = true) (hC : Cz w k g l f b W.drew)
    (h : wpQuiet P l'.toArray (Cz w k g l f b) (fun a' => ∀ w', Cz w k g l f b w' → Q .normal a' w') l' a) : (Code.region id l'.toArray true).wp P Q a W := wp_region_quiet (C := Cz w k g l f b) hm hB hC (by simpa using h)

set_option maxRecDepth 100000 in
set_option maxHeartbeats 4000000 in
theorem nr1 (k g l f q m kh c1 k2 f2 : Int) (b bh b1 b2 : Bool) (w : World) (ho : ∀ W, Calls Try.prog 26 #[.agg #[.int .i64 k, .bool b, .int .i64 g, .int .i64 l, .int .i64 f]] W fun e w' => e = .returned (.bool false) ∧ Below W.heap.size W w') (y3 : k2 ≠ 3) (y4 : k2 ≠ 4) (z1 : k ≠ 1) (z2 : k ≠ 2) (p1 : 1 ≤ q) (p2 : q ≤ l) (h5 : l ≤ 9223372036854775807)
    (hT : ∀ W, Calls Try.prog 27 #[.agg #[.int .i64 k, .bool b, .int .i64 g, .int .i64 l, .int .i64 f], .int .i64 q, .int .i64 m] W (Bad W c1))
    (hH : ∀ W, Calls Try.prog 33 #[.agg #[.int .i64 k, .bool b, .int .i64 g, .int .i64 l, .int .i64 f]] W (St W kh g l f bh))
    (hR : ∀ W, Calls Try.prog 28 #[.agg #[.int .i64 kh, .bool bh, .int .i64 g, .int .i64 l, .int .i64 f], .int .i64 q, .int .i64 m] W (Got W k2 g (l - q) f2 b2)) :
    Calls Try.prog 7 #[.agg #[.int .i64 k, .bool b, .int .i64 g, .int .i64 l, .int .i64 f], .int .i64 q, .int .i64 m] w fun e w' => e = .returned (.bool true) ∧ Below w.heap.size w w' := by
  have HO := Lib.hid ho
  have HT := Lib.hid hT
  have HH := Lib.hid hH
  have HR := Lib.hid hR
  clear ho hT hH hR
  have hgg : (g != g) = false := by simp
  have hll : (l - q != l - q) = false := by simp
  have hl0 : (l != l) = false := by simp
  have hff : (f + 1 != f + 1) = false := by simp
  have hd : decide (0 < q) = true := decide_eq_true (by omega)
  go_enter Try.func7, Try.ntmps7
  have hS0 : (w.alloc (Obj.cells #[.int .i64 k, .bool b, .int .i64 g, .int .i64 l, .int .i64 f] 56)).cell? ⟨w.heap.size, 0, none⟩ = some (.int .i64 k) ∧ (w.alloc (Obj.cells #[.int .i64 k, .bool b, .int .i64 g, .int .i64 l, .int .i64 f] 56)).cell? ⟨w.heap.size, 1, none⟩ = some (.bool b) ∧ (w.alloc (Obj.cells #[.int .i64 k, .bool b, .int .i64 g, .int .i64 l, .int .i64 f] 56)).cell? ⟨w.heap.size, 2, none⟩ = some (.int .i64 g) ∧ (w.alloc (Obj.cells #[.int .i64 k, .bool b, .int .i64 g, .int .i64 l, .int .i64 f] 56)).cell? ⟨w.heap.size, 3, none⟩ = some (.int .i64 l) ∧ (w.alloc (Obj.cells #[.int .i64 k, .bool b, .int .i64 g, .int .i64 l, .int .i64 f] 56)).cell? ⟨w.heap.size, 4, none⟩ = some (.int .i64 f) := ⟨by simp [go_sem], by simp [go_sem], by simp [go_sem], by simp [go_sem], by simp [go_sem]⟩
  go_wp2_with fail
  refine (HO.out _).mono ?_
  rintro e w1 ⟨rfl, hb1⟩
  obtain ⟨hc1, hf1⟩ := bcell hb1
  have hz1 := hb1.size
  have hB1 : Below w.heap.size w w1 := Below.step (by go_grown) hb1
  try simp only [World.size_alloc, World.size_setCell, World.size_drew] at hz1 hc1 hf1
  have hy1_0 : w.heap.size < w1.heap.size := by omega
  have hs1 := hB1.size
  have hS1 : w1.cell? ⟨w.heap.size, 0, none⟩ = some (.int .i64 k) ∧ w1.cell? ⟨w.heap.size, 1, none⟩ = some (.bool b) ∧ w1.cell? ⟨w.heap.size, 2, none⟩ = some (.int .i64 g) ∧ w1.cell? ⟨w.heap.size, 3, none⟩ = some (.int .i64 l) ∧ w1.cell? ⟨w.heap.size, 4, none⟩ = some (.int .i64 f) := keep hS0 (by simp) (Below.step (by go_grown) hb1)
  have hq1 : w.heap.size < w1.heap.size := by omega
  go_wp2_with fail
  refine (HT.out _).mono ?_
  rintro e w2 ⟨rfl, hb2⟩
  obtain ⟨hc2, hf2⟩ := bcell hb2
  have hz2 := hb2.size
  have hB2 : Below w.heap.size w w2 := Below.step (by go_grown) hb2
  try simp only [World.size_alloc, World.size_setCell, World.size_drew] at hz2 hc2 hf2
  have hy2_0 : w.heap.size < w2.heap.size := by omega
  have hs2 := hB2.size
  have hS2 : w2.cell? ⟨w.heap.size, 0, none⟩ = some (.int .i64 k) ∧ w2.cell? ⟨w.heap.size, 1, none⟩ = some (.bool b) ∧ w2.cell? ⟨w.heap.size, 2, none⟩ = some (.int .i64 g) ∧ w2.cell? ⟨w.heap.size, 3, none⟩ = some (.int .i64 l) ∧ w2.cell? ⟨w.heap.size, 4, none⟩ = some (.int .i64 f) := keep hS1 hq1 (Below.step (by go_grown) hb2)
  have hq2 : w.heap.size < w2.heap.size := by omega
  go_wp2_with fail
  refine (HH.out _).mono ?_
  rintro e w3 ⟨rfl, hb3⟩
  obtain ⟨hc3, hf3⟩ := bcell hb3
  have hz3 := hb3.size
  have hB3 : Below w.heap.size w w3 := Below.step (by go_grown) hb3
  try simp only [World.size_alloc, World.size_setCell, World.size_drew] at hz3 hc3 hf3
  have hy3_0 : w.heap.size < w3.heap.size := by omega
  have hy3_1 : w2.heap.size < w3.heap.size := by omega
  have hs3 := hB3.size
  have hS3 : w3.cell? ⟨w.heap.size, 0, none⟩ = some (.int .i64 k) ∧ w3.cell? ⟨w.heap.size, 1, none⟩ = some (.bool b) ∧ w3.cell? ⟨w.heap.size, 2, none⟩ = some (.int .i64 g) ∧ w3.cell? ⟨w.heap.size, 3, none⟩ = some (.int .i64 l) ∧ w3.cell? ⟨w.heap.size, 4, none⟩ = some (.int .i64 f) := keep hS2 hq2 (Below.step (by go_grown) hb3)
  have hq3 : w.heap.size < w3.heap.size := by omega
  go_wp2_with fail
  refine (HR.out _).mono ?_
  rintro e w4 ⟨rfl, hb4⟩
  obtain ⟨hc4, hf4⟩ := bcell hb4
  have hz4 := hb4.size
  have hB4 : Below w.heap.size w w4 := Below.step (by go_grown) hb4
  try simp only [World.size_alloc, World.size_setCell, World.size_drew] at hz4 hc4 hf4
  have hy4_0 : w.heap.size < w4.heap.size := by omega
  have hy4_1 : w2.heap.size < w4.heap.size := by omega
  have hs4 := hB4.size
  have hS4 : w4.cell? ⟨w.heap.size, 0, none⟩ = some (.int .i64 k) ∧ w4.cell? ⟨w.heap.size, 1, none⟩ = some (.bool b) ∧ w4.cell? ⟨w.heap.size, 2, none⟩ = some (.int .i64 g) ∧ w4.cell? ⟨w.heap.size, 3, none⟩ = some (.int .i64 l) ∧ w4.cell? ⟨w.heap.size, 4, none⟩ = some (.int .i64 f) := keep hS3 hq3 (Below.step (by go_grown) hb4)
  have hq4 : w.heap.size < w4.heap.size := by omega
  go_wp2_with fail
  refine (held_no _ _ _ _ _ _ y3 y4).mono ?_
  rintro e w5 ⟨rfl, hb5⟩
  obtain ⟨hc5, hf5⟩ := bcell hb5
  have hz5 := hb5.size
  have hB5 : Below w.heap.size w w5 := Below.step (by go_grown) hb5
  try simp only [World.size_alloc, World.size_setCell, World.size_drew] at hz5 hc5 hf5
  have hy5_0 : w.heap.size < w5.heap.size := by omega
  have hy5_1 : w2.heap.size < w5.heap.size := by omega
  have hy5_2 : w4.heap.size < w5.heap.size := by omega
  have hs5 := hB5.size
  have hS5 : w5.cell? ⟨w.heap.size, 0, none⟩ = some (.int .i64 k) ∧ w5.cell? ⟨w.heap.size, 1, none⟩ = some (.bool b) ∧ w5.cell? ⟨w.heap.size, 2, none⟩ = some (.int .i64 g) ∧ w5.cell? ⟨w.heap.size, 3, none⟩ = some (.int .i64 l) ∧ w5.cell? ⟨w.heap.size, 4, none⟩ = some (.int .i64 f) := keep hS4 hq4 (Below.step (by go_grown) hb5)
  have hq5 : w.heap.size < w5.heap.size := by omega
  go_wp2_with fail
  have hBb : Cz w k g l f b w5.drew := ⟨keep hS5 hq5 (Below.drew (by go_grown)), by simp only [World.size_drew, World.size_alloc]; omega, Below.drew (by go_grown)⟩
  clear hc1 hf1 hz1 hb1 hS1 hy1_0 hs1
  clear hc2 hf2 hz2 hb2 hS2 hy2_0 hs2
  clear hc3 hf3 hz3 hb3 hS3 hy3_0 hs3
  clear hc4 hf4 hz4 hb4 hS4 hy4_0 hs4
  clear hc5 hf5 hz5 hb5 hS5 hy5_0 hs5
  clear hS0
  refine region_cz (by kernel_rfl) (by kernel_rfl) hBb ?_
  go_big_quiet_want
  go_big_quiet_op
  refine ⟨.bool true, fun wq hq => awake_cz hq, ?_⟩
  go_big_quiet_on
  iterate 14 (first | go_big_quiet_skip | (go_big_quiet_want; go_big_quiet_op; first | go_big_quiet_on | (refine ⟨_, fun _ _ => rfl, ?_⟩; go_big_quiet_on)))
  go_big_quiet_want
  refine ⟨.agg #[.int .i64 k, .bool b, .int .i64 g, .int .i64 l, .int .i64 f], fun wq hq => ?_, ?_⟩
  · obtain ⟨⟨q0, q1, q2, q3, q4⟩, _, _⟩ := hq
    unfold Oper.quietAt
    simp [go_sem, q0, q1, q2, q3, q4, Oper.quietUpon]
  simp only [Act.put, List.setIfInBounds_toArray, List.set_cons_zero, List.set_cons_succ]
  go_big_quiet_on
  go_big_quiet_want
  go_big_quiet_op
  refine ⟨.bool false, fun wq hq => loose_cz z1 z2 hq, ?_⟩
  go_big_quiet_on
  repeat (first | go_big_quiet_skip | (go_big_quiet_want; go_big_quiet_op; first | go_big_quiet_on | (refine ⟨_, fun _ _ => rfl, ?_⟩; go_big_quiet_on)))
  refine wpQuiet_nil ?_
  intro wz hz
  have hBz : Below w.heap.size w wz := hz.2.2
  all_goals go_wp2
  all_goals go_ret
  all_goals exact ⟨rfl, hBz⟩
end Go.Proofs.Ytbooncoealpfdaa.cellStays

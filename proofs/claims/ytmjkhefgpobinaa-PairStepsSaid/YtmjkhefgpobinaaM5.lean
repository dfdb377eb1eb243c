/-
  Texts of the machine of pairs, part 5.
-/
import Derived.Laws.BitsAllLaws
import Derived.Laws.BitsLemmas
import Derived.Deep.RegionLaw
import Derived.Test.YtmjkhefgpobinaaM1
import Derived.Test.YtmjkhefgpobinaaM3
import Derived.Test.YtmjkhefgpobinaaM4
namespace Go.Proofs.Ytmjkhefgpobinaa
open Go.ChangeShapes Go.WideShapes Go.ChangeAt Go.RowKit
/-- What a block holds. -/
def cellsAt (w : World) (g : Nat) : Array Value := match w.heap[g]? with
  | some (.cells cs _ _) => cs
  | _ => #[]
def LayAt (w : World) (g : Nat) : Prop := ∃ cs, w.heap[g]? = some (.cells cs 123 (0, 0)) ∧ (Try.prog.info? 123).map (·.size) = some cs.size
theorem loadL_at (w : World) (g : Nat) (h : LayAt w g) : (loadVar 123 ⟨g, 0, none⟩).run Try.prog w = .ok (.agg (cellsAt w g)) w := by
  obtain ⟨cs, hg, hi⟩ := h
  have e : cellsAt w g = cs := by simp [cellsAt, hg]
  rw [e]
  exact run_loadVar_row w g 123 123 cs (0, 0) _ hg Try.underlying123 rfl hi
theorem lay_at {w : World} {g : Nat} {cs : Array Value} (hg : w.heap[g]? = some (.cells cs 123 (0, 0))) (hi : (Try.prog.info? 123).map (·.size) = some cs.size) : LayAt w g ∧ cellsAt w g = cs := ⟨⟨cs, hg, hi⟩, by simp [cellsAt, hg]⟩
def ptrB : Value → Nat
  | .pointer (some a) => a.block
  | _ => 0
theorem exec_loadL (ev : Operand → Value) (x : Operand) (d : Option Tmp) (ty : TypeId) (pos : String) (af : Array _) (gd : _) (w : World) (hp : ev x = .pointer (some ⟨ptrB (ev x), 0, none⟩)) (h : LayAt w (ptrB (ev x))) :
    (execOp ev { dst := d, op := Op.load 123 x, type := ty, pos := pos, after := af, guard := gd }).run Try.prog w = .ok (.value (.agg (cellsAt w (ptrB (ev x))))) w := by
  have e := loadL_at w _ h
  generalize ptrB (ev x) = g at *
  unfold execOp
  simp only [Instr.loadAt, hp, Instr.sureAddr, Sem.run_bind, Sem.run_pure, Result.andThen_ok, e]
attribute [local go_sem ↓] exec_loadL
attribute [local go_sem] ptrB
theorem lay_far {w : World} {g : Nat} {cs : Array Value} (h : LayAt w g ∧ cellsAt w g = cs) (X i : Nat) (v : Value) (hne : g ≠ X) : LayAt (w.setCell ⟨X, i, none⟩ v) g ∧ cellsAt (w.setCell ⟨X, i, none⟩ v) g = cs := by
  have e : (w.setCell ⟨X, i, none⟩ v).heap[g]? = w.heap[g]? := Below.heap_setCell w ⟨X, i, none⟩ v g hne
  have e2 : cellsAt (w.setCell ⟨X, i, none⟩ v) g = cellsAt w g := by unfold cellsAt; rw [e]
  obtain ⟨⟨c, h1, h2⟩, h3⟩ := h
  exact ⟨⟨c, e.trans h1, h2⟩, e2.trans h3⟩
/-- A block of 5 cells. -/
def Blk5 (B : Nat) (v0 v1 v2 v3 v4 : Value) (w : World) : Prop :=
  (w.cell? ⟨B, 0, none⟩ = some v0 ∧ w.cell? ⟨B, 1, none⟩ = some v1 ∧ w.cell? ⟨B, 2, none⟩ = some v2 ∧ w.cell? ⟨B, 3, none⟩ = some v3 ∧ w.cell? ⟨B, 4, none⟩ = some v4) ∧ (w.frozen? ⟨B, 0, none⟩ = false ∧ w.frozen? ⟨B, 1, none⟩ = false ∧ w.frozen? ⟨B, 2, none⟩ = false ∧ w.frozen? ⟨B, 3, none⟩ = false ∧ w.frozen? ⟨B, 4, none⟩ = false) ∧ B < w.heap.size
theorem Blk5.below {B : Nat} {v0 v1 v2 v3 v4 : Value} {w w' : World} (h : Blk5 B v0 v1 v2 v3 v4 w) (hb : Below w.heap.size w w') : Blk5 B v0 v1 v2 v3 v4 w' := by
  obtain ⟨⟨c0, c1, c2, c3, c4⟩, ⟨q0, q1, q2, q3, q4⟩, hl⟩ := h
  have hc : ∀ o, w'.cell? ⟨B, o, none⟩ = w.cell? ⟨B, o, none⟩ := fun o => hb.cell (p := ⟨B, o, none⟩) hl
  have hf : ∀ o, w'.frozen? ⟨B, o, none⟩ = w.frozen? ⟨B, o, none⟩ := fun o => hb.frozen (p := ⟨B, o, none⟩) hl
  exact ⟨⟨(hc 0).trans c0, (hc 1).trans c1, (hc 2).trans c2, (hc 3).trans c3, (hc 4).trans c4⟩, ⟨(hf 0).trans q0, (hf 1).trans q1, (hf 2).trans q2, (hf 3).trans q3, (hf 4).trans q4⟩, Nat.lt_of_lt_of_le hl hb.size⟩
theorem Blk5.set {B : Nat} {v0 v1 v2 v3 v4 : Value} {w : World} (h : Blk5 B v0 v1 v2 v3 v4 w) (u0 u1 u2 u3 u4 : Value) : Blk5 B u0 u1 u2 u3 u4 (((((w.setCell ⟨B, 0, none⟩ (u0)).setCell ⟨B, 1, none⟩ (u1)).setCell ⟨B, 2, none⟩ (u2)).setCell ⟨B, 3, none⟩ (u3)).setCell ⟨B, 4, none⟩ (u4)) := by
  obtain ⟨⟨c0, c1, c2, c3, c4⟩, ⟨q0, q1, q2, q3, q4⟩, hl⟩ := h
  refine ⟨⟨?_, ?_, ?_, ?_, ?_⟩, ⟨?_, ?_, ?_, ?_, ?_⟩, ?_⟩
  · rw [cell_other _ _ _ _ _ _ (.inr (by decide))]; rw [cell_other _ _ _ _ _ _ (.inr (by decide))]; rw [cell_other _ _ _ _ _ _ (.inr (by decide))]; rw [cell_other _ _ _ _ _ _ (.inr (by decide))]; refine cell_same _ _ _ _ v0 ?_; exact c0
  · rw [cell_other _ _ _ _ _ _ (.inr (by decide))]; rw [cell_other _ _ _ _ _ _ (.inr (by decide))]; rw [cell_other _ _ _ _ _ _ (.inr (by decide))]; refine cell_same _ _ _ _ v1 ?_; rw [cell_other _ _ _ _ _ _ (.inr (by decide))]; exact c1
  · rw [cell_other _ _ _ _ _ _ (.inr (by decide))]; rw [cell_other _ _ _ _ _ _ (.inr (by decide))]; refine cell_same _ _ _ _ v2 ?_; rw [cell_other _ _ _ _ _ _ (.inr (by decide))]; rw [cell_other _ _ _ _ _ _ (.inr (by decide))]; exact c2
  · rw [cell_other _ _ _ _ _ _ (.inr (by decide))]; refine cell_same _ _ _ _ v3 ?_; rw [cell_other _ _ _ _ _ _ (.inr (by decide))]; rw [cell_other _ _ _ _ _ _ (.inr (by decide))]; rw [cell_other _ _ _ _ _ _ (.inr (by decide))]; exact c3
  · refine cell_same _ _ _ _ v4 ?_; rw [cell_other _ _ _ _ _ _ (.inr (by decide))]; rw [cell_other _ _ _ _ _ _ (.inr (by decide))]; rw [cell_other _ _ _ _ _ _ (.inr (by decide))]; rw [cell_other _ _ _ _ _ _ (.inr (by decide))]; exact c4
  all_goals first | (simp only [frozen_setCell]; assumption) | (simp only [World.size_setCell]; assumption)
theorem lay_far5 {w : World} {g B : Nat} {cs : Array Value} (hS : LayAt w g ∧ cellsAt w g = cs) (hne : g ≠ B) (u0 u1 u2 u3 u4 : Value) : LayAt (((((w.setCell ⟨B, 0, none⟩ (u0)).setCell ⟨B, 1, none⟩ (u1)).setCell ⟨B, 2, none⟩ (u2)).setCell ⟨B, 3, none⟩ (u3)).setCell ⟨B, 4, none⟩ (u4)) g ∧ cellsAt (((((w.setCell ⟨B, 0, none⟩ (u0)).setCell ⟨B, 1, none⟩ (u1)).setCell ⟨B, 2, none⟩ (u2)).setCell ⟨B, 3, none⟩ (u3)).setCell ⟨B, 4, none⟩ (u4)) g = cs := lay_far (lay_far (lay_far (lay_far (lay_far (hS) _ _ _ hne) _ _ _ hne) _ _ _ hne) _ _ _ hne) _ _ _ hne
theorem below_set5b {W w : World} {b B : Nat} (h : Below b W w) (hB : b ≤ B) (u0 u1 u2 u3 u4 : Value) : Below b W (((((w.setCell ⟨B, 0, none⟩ (u0)).setCell ⟨B, 1, none⟩ (u1)).setCell ⟨B, 2, none⟩ (u2)).setCell ⟨B, 3, none⟩ (u3)).setCell ⟨B, 4, none⟩ (u4)) := (((((h.setCell hB _).setCell hB _).setCell hB _).setCell hB _).setCell hB _)
/-- A block of 6 cells. -/
def Blk6 (B : Nat) (v0 v1 v2 v3 v4 v5 : Value) (w : World) : Prop :=
  (w.cell? ⟨B, 0, none⟩ = some v0 ∧ w.cell? ⟨B, 1, none⟩ = some v1 ∧ w.cell? ⟨B, 2, none⟩ = some v2 ∧ w.cell? ⟨B, 3, none⟩ = some v3 ∧ w.cell? ⟨B, 4, none⟩ = some v4 ∧ w.cell? ⟨B, 5, none⟩ = some v5) ∧ (w.frozen? ⟨B, 0, none⟩ = false ∧ w.frozen? ⟨B, 1, none⟩ = false ∧ w.frozen? ⟨B, 2, none⟩ = false ∧ w.frozen? ⟨B, 3, none⟩ = false ∧ w.frozen? ⟨B, 4, none⟩ = false ∧ w.frozen? ⟨B, 5, none⟩ = false) ∧ B < w.heap.size
theorem Blk6.below {B : Nat} {v0 v1 v2 v3 v4 v5 : Value} {w w' : World} (h : Blk6 B v0 v1 v2 v3 v4 v5 w) (hb : Below w.heap.size w w') : Blk6 B v0 v1 v2 v3 v4 v5 w' := by
  obtain ⟨⟨c0, c1, c2, c3, c4, c5⟩, ⟨q0, q1, q2, q3, q4, q5⟩, hl⟩ := h
  have hc : ∀ o, w'.cell? ⟨B, o, none⟩ = w.cell? ⟨B, o, none⟩ := fun o => hb.cell (p := ⟨B, o, none⟩) hl
  have hf : ∀ o, w'.frozen? ⟨B, o, none⟩ = w.frozen? ⟨B, o, none⟩ := fun o => hb.frozen (p := ⟨B, o, none⟩) hl
  exact ⟨⟨(hc 0).trans c0, (hc 1).trans c1, (hc 2).trans c2, (hc 3).trans c3, (hc 4).trans c4, (hc 5).trans c5⟩, ⟨(hf 0).trans q0, (hf 1).trans q1, (hf 2).trans q2, (hf 3).trans q3, (hf 4).trans q4, (hf 5).trans q5⟩, Nat.lt_of_lt_of_le hl hb.size⟩
theorem Blk6.set {B : Nat} {v0 v1 v2 v3 v4 v5 : Value} {w : World} (h : Blk6 B v0 v1 v2 v3 v4 v5 w) (u0 u1 u2 u3 u4 u5 : Value) : Blk6 B u0 u1 u2 u3 u4 u5 ((((((w.setCell ⟨B, 0, none⟩ (u0)).setCell ⟨B, 1, none⟩ (u1)).setCell ⟨B, 2, none⟩ (u2)).setCell ⟨B, 3, none⟩ (u3)).setCell ⟨B, 4, none⟩ (u4)).setCell ⟨B, 5, none⟩ (u5)) := by
  obtain ⟨⟨c0, c1, c2, c3, c4, c5⟩, ⟨q0, q1, q2, q3, q4, q5⟩, hl⟩ := h
  refine ⟨⟨?_, ?_, ?_, ?_, ?_, ?_⟩, ⟨?_, ?_, ?_, ?_, ?_, ?_⟩, ?_⟩
  · rw [cell_other _ _ _ _ _ _ (.inr (by decide))]; rw [cell_other _ _ _ _ _ _ (.inr (by decide))]; rw [cell_other _ _ _ _ _ _ (.inr (by decide))]; rw [cell_other _ _ _ _ _ _ (.inr (by decide))]; rw [cell_other _ _ _ _ _ _ (.inr (by decide))]; refine cell_same _ _ _ _ v0 ?_; exact c0
  · rw [cell_other _ _ _ _ _ _ (.inr (by decide))]; rw [cell_other _ _ _ _ _ _ (.inr (by decide))]; rw [cell_other _ _ _ _ _ _ (.inr (by decide))]; rw [cell_other _ _ _ _ _ _ (.inr (by decide))]; refine cell_same _ _ _ _ v1 ?_; rw [cell_other _ _ _ _ _ _ (.inr (by decide))]; exact c1
  · rw [cell_other _ _ _ _ _ _ (.inr (by decide))]; rw [cell_other _ _ _ _ _ _ (.inr (by decide))]; rw [cell_other _ _ _ _ _ _ (.inr (by decide))]; refine cell_same _ _ _ _ v2 ?_; rw [cell_other _ _ _ _ _ _ (.inr (by decide))]; rw [cell_other _ _ _ _ _ _ (.inr (by decide))]; exact c2
  · rw [cell_other _ _ _ _ _ _ (.inr (by decide))]; rw [cell_other _ _ _ _ _ _ (.inr (by decide))]; refine cell_same _ _ _ _ v3 ?_; rw [cell_other _ _ _ _ _ _ (.inr (by decide))]; rw [cell_other _ _ _ _ _ _ (.inr (by decide))]; rw [cell_other _ _ _ _ _ _ (.inr (by decide))]; exact c3
  · rw [cell_other _ _ _ _ _ _ (.inr (by decide))]; refine cell_same _ _ _ _ v4 ?_; rw [cell_other _ _ _ _ _ _ (.inr (by decide))]; rw [cell_other _ _ _ _ _ _ (.inr (by decide))]; rw [cell_other _ _ _ _ _ _ (.inr (by decide))]; rw [cell_other _ _ _ _ _ _ (.inr (by decide))]; exact c4
  · refine cell_same _ _ _ _ v5 ?_; rw [cell_other _ _ _ _ _ _ (.inr (by decide))]; rw [cell_other _ _ _ _ _ _ (.inr (by decide))]; rw [cell_other _ _ _ _ _ _ (.inr (by decide))]; rw [cell_other _ _ _ _ _ _ (.inr (by decide))]; rw [cell_other _ _ _ _ _ _ (.inr (by decide))]; exact c5
  all_goals first | (simp only [frozen_setCell]; assumption) | (simp only [World.size_setCell]; assumption)
theorem lay_far6 {w : World} {g B : Nat} {cs : Array Value} (hS : LayAt w g ∧ cellsAt w g = cs) (hne : g ≠ B) (u0 u1 u2 u3 u4 u5 : Value) : LayAt ((((((w.setCell ⟨B, 0, none⟩ (u0)).setCell ⟨B, 1, none⟩ (u1)).setCell ⟨B, 2, none⟩ (u2)).setCell ⟨B, 3, none⟩ (u3)).setCell ⟨B, 4, none⟩ (u4)).setCell ⟨B, 5, none⟩ (u5)) g ∧ cellsAt ((((((w.setCell ⟨B, 0, none⟩ (u0)).setCell ⟨B, 1, none⟩ (u1)).setCell ⟨B, 2, none⟩ (u2)).setCell ⟨B, 3, none⟩ (u3)).setCell ⟨B, 4, none⟩ (u4)).setCell ⟨B, 5, none⟩ (u5)) g = cs := lay_far (lay_far (lay_far (lay_far (lay_far (lay_far (hS) _ _ _ hne) _ _ _ hne) _ _ _ hne) _ _ _ hne) _ _ _ hne) _ _ _ hne
theorem below_set6b {W w : World} {b B : Nat} (h : Below b W w) (hB : b ≤ B) (u0 u1 u2 u3 u4 u5 : Value) : Below b W ((((((w.setCell ⟨B, 0, none⟩ (u0)).setCell ⟨B, 1, none⟩ (u1)).setCell ⟨B, 2, none⟩ (u2)).setCell ⟨B, 3, none⟩ (u3)).setCell ⟨B, 4, none⟩ (u4)).setCell ⟨B, 5, none⟩ (u5)) := ((((((h.setCell hB _).setCell hB _).setCell hB _).setCell hB _).setCell hB _).setCell hB _)
set_option maxRecDepth 100000 in
set_option maxHeartbeats 4000000 in
theorem ofC_is (x : Nat) (hx : x < 18446744073709551616) (w : World) : Calls Try.prog 42 #[.int .u64 (x : Int)] w fun e w' => e = .returned (.agg #[.int .i64 (fld shc x 0), .bool (fld shc x 1 == 1), .int .i64 (fld shc x 2), .int .i64 (fld shc x 3), .int .i64 (fld shc x 4)]) ∧ Below w.heap.size w w' := by
  go_enter Try.func42, Try.ntmps42
  go_wp2_with fail
  refine (layoutC _).mono ?_
  rintro e w1 ⟨cs, rfl, hL, hb1⟩
  have hB1 : Below w.heap.size w w1 := Below.step (by go_grown) hb1
  have hz1 := hb1.size
  simp only [World.size_alloc] at hz1
  have hlt : w.heap.size < w1.heap.size := by omega
  have HSZ := Lib.hid (lay_info hL)
  have HZS := Lib.hid (show Z0.size = cs.size from by rw [hL.size]; rfl)
  have HON := Lib.hid hL.one
  have HG1 := Lib.hid (heap_alloc_new w1 (Obj.cells Z0 123))
  have HG2 := Lib.hid (heap_alloc_new w1 (Obj.cells cs 123))
  have HGT0 := Lib.hid (fun W => show Calls Try.prog 49 #[.agg cs, .int .u64 (x : Int), .int .i64 0] W fun e w' => e = .returned (.int .i64 (fld shc x 0)) ∧ Below W.heap.size W w' from get43 hL shc_steps x 0 hx (by decide) W)
  have HGT1 := Lib.hid (fun W => show Calls Try.prog 49 #[.agg cs, .int .u64 (x : Int), .int .i64 1] W fun e w' => e = .returned (.int .i64 (fld shc x 1)) ∧ Below W.heap.size W w' from get43 hL shc_steps x 1 hx (by decide) W)
  have HGT2 := Lib.hid (fun W => show Calls Try.prog 49 #[.agg cs, .int .u64 (x : Int), .int .i64 2] W fun e w' => e = .returned (.int .i64 (fld shc x 2)) ∧ Below W.heap.size W w' from get43 hL shc_steps x 2 hx (by decide) W)
  have HGT3 := Lib.hid (fun W => show Calls Try.prog 49 #[.agg cs, .int .u64 (x : Int), .int .i64 3] W fun e w' => e = .returned (.int .i64 (fld shc x 3)) ∧ Below W.heap.size W w' from get43 hL shc_steps x 3 hx (by decide) W)
  have HGT4 := Lib.hid (fun W => show Calls Try.prog 49 #[.agg cs, .int .u64 (x : Int), .int .i64 4] W fun e w' => e = .returned (.int .i64 (fld shc x 4)) ∧ Below W.heap.size W w' from get43 hL shc_steps x 4 hx (by decide) W)
  have bn : Blk5 w.heap.size (.int .i64 0) (.bool false) (.int .i64 0) (.int .i64 0) (.int .i64 0) (w.alloc (.cells #[.int .i64 0, .bool false, .int .i64 0, .int .i64 0, .int .i64 0] 42)) := ⟨⟨by simp [go_sem], by simp [go_sem], by simp [go_sem], by simp [go_sem], by simp [go_sem]⟩, ⟨by simp [go_sem], by simp [go_sem], by simp [go_sem], by simp [go_sem], by simp [go_sem]⟩, by simp⟩
  have bx := Blk5.below (Blk5.below bn hb1) (show Below w1.heap.size w1 (w1.alloc (Obj.cells cs 123)) from by go_grown)
  clear hL hb1 bn
  go_wp2_with (refine wpList_store_row rfl 123 _ _ rfl w1.heap.size cs rfl rfl 123 Z0 HG1.out HSZ.out HZS.out HON.out ?_; rw [World.setRow_alloc_new])
  have H0 : Hid ((w1.alloc (Obj.cells cs 123)).drew.heap[w1.heap.size]? = some (.cells cs 123 (0, 0))) := HG2.out
  have hC0 : Below w.heap.size w (w1.alloc (Obj.cells cs 123)).drew := Below.drew (hB1.alloc hB1.size _)
  have bx0 : Blk5 w.heap.size (.int .i64 0) (.bool false) (.int .i64 0) (.int .i64 0) (.int .i64 0) (w1.alloc (Obj.cells cs 123)).drew := bx
  have hS0 := lay_at H0.out HSZ.out
  go_region_held3 (fun w' => LayAt w' w1.heap.size ∧ cellsAt w' w1.heap.size = cs) (first | with_reducible exact hS0 | with_reducible exact hS1 | with_reducible exact hS2 | with_reducible exact hS3 | with_reducible exact hS4 | with_reducible exact hS5 | with_reducible exact lay_far5 hS5 (by omega) _ _ _ _ _ | fail)
    (first
      | ((with_reducible refine (HGT0.out _).mono ?_); rintro e wy1 ⟨rfl, hby1⟩; have H1 := Lib.hid ((hby1.block _ (blk_lt H0.out)).trans H0.out); have hC1 := Below.step hC0 hby1; have hS1 := lay_at H1.out HSZ.out; have bx1 := Blk5.below bx0 hby1; obtain ⟨⟨r1x0, r1x1, r1x2, r1x3, r1x4⟩, ⟨r1xf0, r1xf1, r1xf2, r1xf3, r1xf4⟩, _⟩ := id bx1; clear hby1)
      | ((with_reducible refine (HGT1.out _).mono ?_); rintro e wy2 ⟨rfl, hby2⟩; have H2 := Lib.hid ((hby2.block _ (blk_lt H1.out)).trans H1.out); have hC2 := Below.step hC1 hby2; have hS2 := lay_at H2.out HSZ.out; have bx2 := Blk5.below bx1 hby2; obtain ⟨⟨r2x0, r2x1, r2x2, r2x3, r2x4⟩, ⟨r2xf0, r2xf1, r2xf2, r2xf3, r2xf4⟩, _⟩ := id bx2; clear hby2)
      | ((with_reducible refine (HGT2.out _).mono ?_); rintro e wy3 ⟨rfl, hby3⟩; have H3 := Lib.hid ((hby3.block _ (blk_lt H2.out)).trans H2.out); have hC3 := Below.step hC2 hby3; have hS3 := lay_at H3.out HSZ.out; have bx3 := Blk5.below bx2 hby3; obtain ⟨⟨r3x0, r3x1, r3x2, r3x3, r3x4⟩, ⟨r3xf0, r3xf1, r3xf2, r3xf3, r3xf4⟩, _⟩ := id bx3; clear hby3)
      | ((with_reducible refine (HGT3.out _).mono ?_); rintro e wy4 ⟨rfl, hby4⟩; have H4 := Lib.hid ((hby4.block _ (blk_lt H3.out)).trans H3.out); have hC4 := Below.step hC3 hby4; have hS4 := lay_at H4.out HSZ.out; have bx4 := Blk5.below bx3 hby4; obtain ⟨⟨r4x0, r4x1, r4x2, r4x3, r4x4⟩, ⟨r4xf0, r4xf1, r4xf2, r4xf3, r4xf4⟩, _⟩ := id bx4; clear hby4)
      | ((with_reducible refine (HGT4.out _).mono ?_); rintro e wy5 ⟨rfl, hby5⟩; have H5 := Lib.hid ((hby5.block _ (blk_lt H4.out)).trans H4.out); have hC5 := Below.step hC4 hby5; have hS5 := lay_at H5.out HSZ.out; have bx5 := Blk5.below bx4 hby5; obtain ⟨⟨r5x0, r5x1, r5x2, r5x3, r5x4⟩, ⟨r5xf0, r5xf1, r5xf2, r5xf3, r5xf4⟩, _⟩ := id bx5; clear hby5)
      | fail)
  have bz := bx5.set (.int .i64 (fld shc x 0)) (.bool (fld shc x 1 == 1)) (.int .i64 (fld shc x 2)) (.int .i64 (fld shc x 3)) (.int .i64 (fld shc x 4))
  have hBz := below_set5b hC5 (Nat.le_refl _) (.int .i64 (fld shc x 0)) (.bool (fld shc x 1 == 1)) (.int .i64 (fld shc x 2)) (.int .i64 (fld shc x 3)) (.int .i64 (fld shc x 4))
  generalize (((((wy5.setCell ⟨w.heap.size, 0, none⟩ (.int .i64 (fld shc x 0))).setCell ⟨w.heap.size, 1, none⟩ (.bool (fld shc x 1 == 1))).setCell ⟨w.heap.size, 2, none⟩ (.int .i64 (fld shc x 2))).setCell ⟨w.heap.size, 3, none⟩ (.int .i64 (fld shc x 3))).setCell ⟨w.heap.size, 4, none⟩ (.int .i64 (fld shc x 4))) = wz at bz hBz ⊢
  obtain ⟨⟨z0, z1, z2, z3, z4⟩, ⟨zf0, zf1, zf2, zf3, zf4⟩, _⟩ := id bz
  go_wp2
  refine bodyPost_ret (by simp [results, Try.results42, go_sem, z0, z1, z2, z3, z4]; try rfl) rfl ⟨rfl, hBz⟩
set_option maxRecDepth 100000 in
set_option maxHeartbeats 4000000 in
theorem ofR_is (x : Nat) (hx : x < 18446744073709551616) (w : World) : Calls Try.prog 18 #[.int .u64 (x : Int)] w fun e w' => e = .returned (.agg #[.int .i64 (fld shr x 0), .int .i64 (fld shr x 1), .int .i64 (fld shr x 2), .int .i64 (fld shr x 3), .int .i64 (fld shr x 4), .int .i64 (fld shr x 5)]) ∧ Below w.heap.size w w' := by
  go_enter Try.func18, Try.ntmps18
  go_wp2_with fail
  refine (layoutR _).mono ?_
  rintro e w1 ⟨cs, rfl, hL, hb1⟩
  have hB1 : Below w.heap.size w w1 := Below.step (by go_grown) hb1
  have hz1 := hb1.size
  simp only [World.size_alloc] at hz1
  have hlt : w.heap.size < w1.heap.size := by omega
  have HSZ := Lib.hid (lay_info hL)
  have HZS := Lib.hid (show Z0.size = cs.size from by rw [hL.size]; rfl)
  have HON := Lib.hid hL.one
  have HG1 := Lib.hid (heap_alloc_new w1 (Obj.cells Z0 123))
  have HG2 := Lib.hid (heap_alloc_new w1 (Obj.cells cs 123))
  have HGT0 := Lib.hid (fun W => show Calls Try.prog 49 #[.agg cs, .int .u64 (x : Int), .int .i64 0] W fun e w' => e = .returned (.int .i64 (fld shr x 0)) ∧ Below W.heap.size W w' from get43 hL shr_steps x 0 hx (by decide) W)
  have HGT1 := Lib.hid (fun W => show Calls Try.prog 49 #[.agg cs, .int .u64 (x : Int), .int .i64 1] W fun e w' => e = .returned (.int .i64 (fld shr x 1)) ∧ Below W.heap.size W w' from get43 hL shr_steps x 1 hx (by decide) W)
  have HGT2 := Lib.hid (fun W => show Calls Try.prog 49 #[.agg cs, .int .u64 (x : Int), .int .i64 2] W fun e w' => e = .returned (.int .i64 (fld shr x 2)) ∧ Below W.heap.size W w' from get43 hL shr_steps x 2 hx (by decide) W)
  have HGT3 := Lib.hid (fun W => show Calls Try.prog 49 #[.agg cs, .int .u64 (x : Int), .int .i64 3] W fun e w' => e = .returned (.int .i64 (fld shr x 3)) ∧ Below W.heap.size W w' from get43 hL shr_steps x 3 hx (by decide) W)
  have HGT4 := Lib.hid (fun W => show Calls Try.prog 49 #[.agg cs, .int .u64 (x : Int), .int .i64 4] W fun e w' => e = .returned (.int .i64 (fld shr x 4)) ∧ Below W.heap.size W w' from get43 hL shr_steps x 4 hx (by decide) W)
  have HGT5 := Lib.hid (fun W => show Calls Try.prog 49 #[.agg cs, .int .u64 (x : Int), .int .i64 5] W fun e w' => e = .returned (.int .i64 (fld shr x 5)) ∧ Below W.heap.size W w' from get43 hL shr_steps x 5 hx (by decide) W)
  have bn : Blk6 w.heap.size (.int .i64 0) (.int .i64 0) (.int .i64 0) (.int .i64 0) (.int .i64 0) (.int .i64 0) (w.alloc (.cells #[.int .i64 0, .int .i64 0, .int .i64 0, .int .i64 0, .int .i64 0, .int .i64 0] 65)) := ⟨⟨by simp [go_sem], by simp [go_sem], by simp [go_sem], by simp [go_sem], by simp [go_sem], by simp [go_sem]⟩, ⟨by simp [go_sem], by simp [go_sem], by simp [go_sem], by simp [go_sem], by simp [go_sem], by simp [go_sem]⟩, by simp⟩
  have bx := Blk6.below (Blk6.below bn hb1) (show Below w1.heap.size w1 (w1.alloc (Obj.cells cs 123)) from by go_grown)
  clear hL hb1 bn
  go_wp2_with (refine wpList_store_row rfl 123 _ _ rfl w1.heap.size cs rfl rfl 123 Z0 HG1.out HSZ.out HZS.out HON.out ?_; rw [World.setRow_alloc_new])
  have H0 : Hid ((w1.alloc (Obj.cells cs 123)).drew.heap[w1.heap.size]? = some (.cells cs 123 (0, 0))) := HG2.out
  have hC0 : Below w.heap.size w (w1.alloc (Obj.cells cs 123)).drew := Below.drew (hB1.alloc hB1.size _)
  have bx0 : Blk6 w.heap.size (.int .i64 0) (.int .i64 0) (.int .i64 0) (.int .i64 0) (.int .i64 0) (.int .i64 0) (w1.alloc (Obj.cells cs 123)).drew := bx
  have hS0 := lay_at H0.out HSZ.out
  go_region_held3 (fun w' => LayAt w' w1.heap.size ∧ cellsAt w' w1.heap.size = cs) (first | with_reducible exact hS0 | with_reducible exact hS1 | with_reducible exact hS2 | with_reducible exact hS3 | with_reducible exact hS4 | with_reducible exact hS5 | with_reducible exact hS6 | with_reducible exact lay_far6 hS6 (by omega) _ _ _ _ _ _ | fail)
    (first
      | ((with_reducible refine (HGT0.out _).mono ?_); rintro e wy1 ⟨rfl, hby1⟩; have H1 := Lib.hid ((hby1.block _ (blk_lt H0.out)).trans H0.out); have hC1 := Below.step hC0 hby1; have hS1 := lay_at H1.out HSZ.out; have bx1 := Blk6.below bx0 hby1; obtain ⟨⟨r1x0, r1x1, r1x2, r1x3, r1x4, r1x5⟩, ⟨r1xf0, r1xf1, r1xf2, r1xf3, r1xf4, r1xf5⟩, _⟩ := id bx1; clear hby1)
      | ((with_reducible refine (HGT1.out _).mono ?_); rintro e wy2 ⟨rfl, hby2⟩; have H2 := Lib.hid ((hby2.block _ (blk_lt H1.out)).trans H1.out); have hC2 := Below.step hC1 hby2; have hS2 := lay_at H2.out HSZ.out; have bx2 := Blk6.below bx1 hby2; obtain ⟨⟨r2x0, r2x1, r2x2, r2x3, r2x4, r2x5⟩, ⟨r2xf0, r2xf1, r2xf2, r2xf3, r2xf4, r2xf5⟩, _⟩ := id bx2; clear hby2)
      | ((with_reducible refine (HGT2.out _).mono ?_); rintro e wy3 ⟨rfl, hby3⟩; have H3 := Lib.hid ((hby3.block _ (blk_lt H2.out)).trans H2.out); have hC3 := Below.step hC2 hby3; have hS3 := lay_at H3.out HSZ.out; have bx3 := Blk6.below bx2 hby3; obtain ⟨⟨r3x0, r3x1, r3x2, r3x3, r3x4, r3x5⟩, ⟨r3xf0, r3xf1, r3xf2, r3xf3, r3xf4, r3xf5⟩, _⟩ := id bx3; clear hby3)
      | ((with_reducible refine (HGT3.out _).mono ?_); rintro e wy4 ⟨rfl, hby4⟩; have H4 := Lib.hid ((hby4.block _ (blk_lt H3.out)).trans H3.out); have hC4 := Below.step hC3 hby4; have hS4 := lay_at H4.out HSZ.out; have bx4 := Blk6.below bx3 hby4; obtain ⟨⟨r4x0, r4x1, r4x2, r4x3, r4x4, r4x5⟩, ⟨r4xf0, r4xf1, r4xf2, r4xf3, r4xf4, r4xf5⟩, _⟩ := id bx4; clear hby4)
      | ((with_reducible refine (HGT4.out _).mono ?_); rintro e wy5 ⟨rfl, hby5⟩; have H5 := Lib.hid ((hby5.block _ (blk_lt H4.out)).trans H4.out); have hC5 := Below.step hC4 hby5; have hS5 := lay_at H5.out HSZ.out; have bx5 := Blk6.below bx4 hby5; obtain ⟨⟨r5x0, r5x1, r5x2, r5x3, r5x4, r5x5⟩, ⟨r5xf0, r5xf1, r5xf2, r5xf3, r5xf4, r5xf5⟩, _⟩ := id bx5; clear hby5)
      | ((with_reducible refine (HGT5.out _).mono ?_); rintro e wy6 ⟨rfl, hby6⟩; have H6 := Lib.hid ((hby6.block _ (blk_lt H5.out)).trans H5.out); have hC6 := Below.step hC5 hby6; have hS6 := lay_at H6.out HSZ.out; have bx6 := Blk6.below bx5 hby6; obtain ⟨⟨r6x0, r6x1, r6x2, r6x3, r6x4, r6x5⟩, ⟨r6xf0, r6xf1, r6xf2, r6xf3, r6xf4, r6xf5⟩, _⟩ := id bx6; clear hby6)
      | fail)
  have bz := bx6.set (.int .i64 (fld shr x 0)) (.int .i64 (fld shr x 1)) (.int .i64 (fld shr x 2)) (.int .i64 (fld shr x 3)) (.int .i64 (fld shr x 4)) (.int .i64 (fld shr x 5))
  have hBz := below_set6b hC6 (Nat.le_refl _) (.int .i64 (fld shr x 0)) (.int .i64 (fld shr x 1)) (.int .i64 (fld shr x 2)) (.int .i64 (fld shr x 3)) (.int .i64 (fld shr x 4)) (.int .i64 (fld shr x 5))
  generalize ((((((wy6.setCell ⟨w.heap.size, 0, none⟩ (.int .i64 (fld shr x 0))).setCell ⟨w.heap.size, 1, none⟩ (.int .i64 (fld shr x 1))).setCell ⟨w.heap.size, 2, none⟩ (.int .i64 (fld shr x 2))).setCell ⟨w.heap.size, 3, none⟩ (.int .i64 (fld shr x 3))).setCell ⟨w.heap.size, 4, none⟩ (.int .i64 (fld shr x 4))).setCell ⟨w.heap.size, 5, none⟩ (.int .i64 (fld shr x 5))) = wz at bz hBz ⊢
  obtain ⟨⟨z0, z1, z2, z3, z4, z5⟩, ⟨zf0, zf1, zf2, zf3, zf4, zf5⟩, _⟩ := id bz
  go_wp2
  refine bodyPost_ret (by simp [results, Try.results18, go_sem, z0, z1, z2, z3, z4, z5]; try rfl) rfl ⟨rfl, hBz⟩
end Go.Proofs.Ytmjkhefgpobinaa

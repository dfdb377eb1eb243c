/-
  A state in a block.
-/
import Derived.Test.YtgeognijglahfaaRows
import Derived.WalkKit
import Derived.ProofKit
import Derived.OpenShut
import Derived.ShutString
import Derived.Below
import Derived.Outline
import Derived.WalkLawsBesides
import Derived.WalkSpells
import Derived.Handy
import Derived.Lib.Hide
import Derived.Test.YtgeognijglahfaaKit
namespace Go.Proofs.Ytgeognijglahfaa
open Go.ChangeShapes Go.WideShapes Go.ChangeAt Go.RowKit
/-- A state in a block. -/
def Box (B : Nat) (k g l f : Int) (b : Bool) (w : World) : Prop :=
  (w.cell? ⟨B, 0, none⟩ = some (.int .i64 k) ∧ w.cell? ⟨B, 1, none⟩ = some (.bool b) ∧ w.cell? ⟨B, 2, none⟩ = some (.int .i64 g) ∧ w.cell? ⟨B, 3, none⟩ = some (.int .i64 l) ∧ w.cell? ⟨B, 4, none⟩ = some (.int .i64 f)) ∧
  (w.frozen? ⟨B, 0, none⟩ = false ∧ w.frozen? ⟨B, 1, none⟩ = false ∧ w.frozen? ⟨B, 2, none⟩ = false ∧ w.frozen? ⟨B, 3, none⟩ = false ∧ w.frozen? ⟨B, 4, none⟩ = false) ∧ B < w.heap.size
theorem Box.below {B : Nat} {k g l f : Int} {b : Bool} {w w' : World} (h : Box B k g l f b w) (hb : Below w.heap.size w w') : Box B k g l f b w' := by
  obtain ⟨⟨c0, c1, c2, c3, c4⟩, ⟨q0, q1, q2, q3, q4⟩, hl⟩ := h
  have hc : ∀ o, w'.cell? ⟨B, o, none⟩ = w.cell? ⟨B, o, none⟩ := fun o => hb.cell (p := ⟨B, o, none⟩) hl
  have hf : ∀ o, w'.frozen? ⟨B, o, none⟩ = w.frozen? ⟨B, o, none⟩ := fun o => hb.frozen (p := ⟨B, o, none⟩) hl
  exact ⟨⟨(hc 0).trans c0, (hc 1).trans c1, (hc 2).trans c2, (hc 3).trans c3, (hc 4).trans c4⟩, ⟨(hf 0).trans q0, (hf 1).trans q1, (hf 2).trans q2, (hf 3).trans q3, (hf 4).trans q4⟩, Nat.lt_of_lt_of_le hl hb.size⟩
theorem Box.new (w : World) (k g l f : Int) (b : Bool) : Box w.heap.size k g l f b (w.alloc (.cells #[.int .i64 k, .bool b, .int .i64 g, .int .i64 l, .int .i64 f] 52)) := by
  refine ⟨⟨?_, ?_, ?_, ?_, ?_⟩, ⟨?_, ?_, ?_, ?_, ?_⟩, ?_⟩ <;> simp [go_sem]
/-- A state is stored in a block. -/
def set5 (w : World) (X : Nat) (k g l f : Int) (b : Bool) : World :=
  (((((w.setCell ⟨X, 0, none⟩ (.int .i64 k)).setCell ⟨X, 1, none⟩ (.bool b)).setCell ⟨X, 2, none⟩ (.int .i64 g)).setCell ⟨X, 3, none⟩ (.int .i64 l)).setCell ⟨X, 4, none⟩ (.int .i64 f))
theorem frozen_setCell (w : World) (a b : Addr) (v : Value) : (w.setCell a v).frozen? b = w.frozen? b := by simp [go_sem]
theorem addr_ne {a b i j : Nat} (h : a ≠ b ∨ i ≠ j) : (⟨a, i, none⟩ : Addr) ≠ ⟨b, j, none⟩ := by
  intro e; injection e with e1 e2; rcases h with h | h
  · exact h e1
  · exact h e2
theorem cell_other (w : World) (a b i j : Nat) (v : Value) (h : a ≠ b ∨ i ≠ j) : (w.setCell ⟨a, i, none⟩ v).cell? ⟨b, j, none⟩ = w.cell? ⟨b, j, none⟩ := World.cell?_setCell_other _ _ _ _ (addr_ne h)
theorem cell_same (w : World) (a i : Nat) (v u : Value) (h : w.cell? ⟨a, i, none⟩ = some u) : (w.setCell ⟨a, i, none⟩ v).cell? ⟨a, i, none⟩ = some v := World.cell?_setCell_same _ _ _ h
theorem Box.set5_same {X : Nat} {k0 g0 l0 f0 : Int} {b0 : Bool} {w : World} (h : Box X k0 g0 l0 f0 b0 w) (k g l f : Int) (b : Bool) : Box X k g l f b (set5 w X k g l f b) := by
  obtain ⟨⟨c0, c1, c2, c3, c4⟩, ⟨q0, q1, q2, q3, q4⟩, hl⟩ := h
  refine ⟨⟨?_, ?_, ?_, ?_, ?_⟩, ⟨?_, ?_, ?_, ?_, ?_⟩, ?_⟩
  · unfold set5; rw [cell_other _ _ _ _ _ _ (.inr (by decide)), cell_other _ _ _ _ _ _ (.inr (by decide)), cell_other _ _ _ _ _ _ (.inr (by decide)), cell_other _ _ _ _ _ _ (.inr (by decide)), cell_same _ _ _ _ _ c0]
  · unfold set5; rw [cell_other _ _ _ _ _ _ (.inr (by decide)), cell_other _ _ _ _ _ _ (.inr (by decide)), cell_other _ _ _ _ _ _ (.inr (by decide))]; refine cell_same _ _ _ _ (.bool b0) ?_; rw [cell_other _ _ _ _ _ _ (.inr (by decide)), c1]
  · unfold set5; rw [cell_other _ _ _ _ _ _ (.inr (by decide)), cell_other _ _ _ _ _ _ (.inr (by decide))]; refine cell_same _ _ _ _ (.int .i64 g0) ?_; rw [cell_other _ _ _ _ _ _ (.inr (by decide)), cell_other _ _ _ _ _ _ (.inr (by decide)), c2]
  · unfold set5; rw [cell_other _ _ _ _ _ _ (.inr (by decide))]; refine cell_same _ _ _ _ (.int .i64 l0) ?_; rw [cell_other _ _ _ _ _ _ (.inr (by decide)), cell_other _ _ _ _ _ _ (.inr (by decide)), cell_other _ _ _ _ _ _ (.inr (by decide)), c3]
  · unfold set5; refine cell_same _ _ _ _ (.int .i64 f0) ?_; rw [cell_other _ _ _ _ _ _ (.inr (by decide)), cell_other _ _ _ _ _ _ (.inr (by decide)), cell_other _ _ _ _ _ _ (.inr (by decide)), cell_other _ _ _ _ _ _ (.inr (by decide)), c4]
  all_goals first | (unfold set5; simp only [frozen_setCell]; assumption) | (unfold set5; simp only [World.size_setCell]; assumption)
theorem Box.set5_other {B X : Nat} {k0 g0 l0 f0 : Int} {b0 : Bool} {w : World} (h : Box B k0 g0 l0 f0 b0 w) (hne : X ≠ B) (k g l f : Int) (b : Bool) : Box B k0 g0 l0 f0 b0 (set5 w X k g l f b) := by
  obtain ⟨⟨c0, c1, c2, c3, c4⟩, ⟨q0, q1, q2, q3, q4⟩, hl⟩ := h
  have hc : ∀ o, (set5 w X k g l f b).cell? ⟨B, o, none⟩ = w.cell? ⟨B, o, none⟩ := fun o => by
    unfold set5; rw [cell_other _ _ _ _ _ _ (.inl hne), cell_other _ _ _ _ _ _ (.inl hne), cell_other _ _ _ _ _ _ (.inl hne), cell_other _ _ _ _ _ _ (.inl hne), cell_other _ _ _ _ _ _ (.inl hne)]
  have hf : ∀ o, (set5 w X k g l f b).frozen? ⟨B, o, none⟩ = w.frozen? ⟨B, o, none⟩ := fun o => by unfold set5; simp only [frozen_setCell]
  refine ⟨⟨(hc 0).trans c0, (hc 1).trans c1, (hc 2).trans c2, (hc 3).trans c3, (hc 4).trans c4⟩, ⟨(hf 0).trans q0, (hf 1).trans q1, (hf 2).trans q2, (hf 3).trans q3, (hf 4).trans q4⟩, ?_⟩
  unfold set5; simp only [World.size_setCell]; exact hl
theorem below_set5 {W w : World} {B X : Nat} (h : Below B W w) (hX : B ≤ X) (k g l f : Int) (b : Bool) : Below B W (set5 w X k g l f b) := by
  unfold set5
  exact ((((h.setCell hX _).setCell hX _).setCell hX _).setCell hX _).setCell hX _
theorem size_set5 (w : World) (X : Nat) (k g l f : Int) (b : Bool) : (set5 w X k g l f b).heap.size = w.heap.size := by unfold set5; simp only [World.size_setCell]
theorem Box.set0_same {X : Nat} {k0 g l f : Int} {b : Bool} {w : World} (h : Box X k0 g l f b w) (k : Int) : Box X k g l f b (w.setCell ⟨X, 0, none⟩ (.int .i64 k)) := by
  obtain ⟨⟨c0, c1, c2, c3, c4⟩, ⟨q0, q1, q2, q3, q4⟩, hl⟩ := h
  refine ⟨⟨cell_same _ _ _ _ _ c0, ?_, ?_, ?_, ?_⟩, ⟨?_, ?_, ?_, ?_, ?_⟩, ?_⟩
  · rw [cell_other _ _ _ _ _ _ (.inr (by decide))]; exact c1
  · rw [cell_other _ _ _ _ _ _ (.inr (by decide))]; exact c2
  · rw [cell_other _ _ _ _ _ _ (.inr (by decide))]; exact c3
  · rw [cell_other _ _ _ _ _ _ (.inr (by decide))]; exact c4
  all_goals first | (simp only [frozen_setCell]; assumption) | (simp only [World.size_setCell]; assumption)
theorem Box.set0_other {B X : Nat} {k0 g l f : Int} {b : Bool} {w : World} (h : Box B k0 g l f b w) (hne : X ≠ B) (k : Int) : Box B k0 g l f b (w.setCell ⟨X, 0, none⟩ (.int .i64 k)) := by
  obtain ⟨⟨c0, c1, c2, c3, c4⟩, ⟨q0, q1, q2, q3, q4⟩, hl⟩ := h
  have hc : ∀ o, (w.setCell ⟨X, 0, none⟩ (.int .i64 k)).cell? ⟨B, o, none⟩ = w.cell? ⟨B, o, none⟩ := fun o => cell_other _ _ _ _ _ _ (.inl hne)
  refine ⟨⟨(hc 0).trans c0, (hc 1).trans c1, (hc 2).trans c2, (hc 3).trans c3, (hc 4).trans c4⟩, ⟨?_, ?_, ?_, ?_, ?_⟩, ?_⟩
  all_goals first | (simp only [frozen_setCell]; assumption) | (simp only [World.size_setCell]; assumption)
end Go.Proofs.Ytgeognijglahfaa

/-
  Where the words behind a verb go.
-/
import Derived.Test.YtnppopeoloigeaaDoorRows
import Derived.Test.YtnppopeoloigeaaDoorKit
import Derived.Test.YtnppopeoloigeaaDoorApp
import Derived.Test.YtnppopeoloigeaaDoorQuiet
import Derived.WalkKit
import Derived.ProofKit
import Derived.OpenShut
import Derived.ShutString
import Derived.Below
import Derived.Outline
import Derived.WalkLawsBesides
import Derived.WalkSpells
import Derived.Handy
import Derived.Deep.QuietTactic
import Derived.BigQuiet
import Derived.RegionTactic
import Derived.ChangeAlike
import Derived.Lib.Hide
import Derived.Laws.Rows
import Derived.Laws.Tables
import Derived.Laws.CopyOwn
import Derived.Laws.MakeOwn
import Derived.Laws.Entries
import Derived.Laws.OwnMore
import Derived.Deep.WholeRow
import Derived.Deep.LoopGhost
import Derived.Deep.AppendLies
import Derived.Deep.Draws
import Derived.Maps.AppendAt
import Derived.OwnWalk
import Derived.Deep.RegionHeld3
import Derived.Deep.Cut
import Derived.Deep.CutRange
import Derived.Deep.DeepCutAuto
import Derived.Deep.CutBlock
import Derived.Lib.SliceRun
import Derived.IntWalk
import Derived.Laws.Strings
import Derived.Test.YtnppopeoloigeaaDoorLnE
import Derived.BigRegion
namespace Go.Proofs.YtnppopeoloigeaaDoor
open Go.ChangeShapes Go.WideShapes Go.ChangeAt Go.RowKit
/-- Where the words behind a verb go: a cell of the ask, whether it is a side. -/
def tg (k : Int) : List (Nat × Bool) := if k = 1 then [(1, false), (2, false), (4, true), (3, false), (8, false), (5, false), (6, false), (7, false)] else if k = 2 then [(1, false), (2, false)] else if k = 3 then [(2, false)] else []
/-- A row of slots into block B. -/
def SlAt (w : World) (B : Nat) (A : Option Addr) (l : List (Nat × Bool)) : Prop := 0 < l.length → ∃ g, A = some ⟨g, 0, none⟩ ∧ g < w.heap.size ∧ ∀ (i j : Nat) (b : Bool), l[i]? = some (j, b) → w.cell? ⟨g, i * 2, none⟩ = some (.pointer (some ⟨B, j, none⟩)) ∧ w.cell? ⟨g, i * 2 + 1, none⟩ = some (.bool b)
theorem SlAt.below {w w' : World} {B : Nat} {A : Option Addr} {l : List (Nat × Bool)} (h : SlAt w B A l) (hb : Below w.heap.size w w') : SlAt w' B A l := fun h0 => by
  obtain ⟨g, e, hl, hc⟩ := h h0
  refine ⟨g, e, by have := hb.size; omega, fun i j b hi => ?_⟩
  obtain ⟨c1, c2⟩ := hc i j b hi
  exact ⟨(hb.cell (p := ⟨g, i * 2, none⟩) hl).trans c1, (hb.cell (p := ⟨g, i * 2 + 1, none⟩) hl).trans c2⟩
set_option maxRecDepth 100000 in
theorem slots_4 (B : Nat) (w : World) (hk : w.cell? ⟨B, 0, none⟩ = some (.int .i64 4)) : Calls Tryd.prog 23 #[.pointer (some ⟨B, 0, none⟩)] w fun e w' => e = .returned (.slice none 0 0) ∧ w = w' := by
  go_enter Tryd.func23, Tryd.ntmps23
  go_wp2_with fail
  go_ret
  exact ⟨rfl, rfl⟩
set_option maxRecDepth 100000 in
theorem slots_3 (B : Nat) (w : World) (hk : w.cell? ⟨B, 0, none⟩ = some (.int .i64 3)) : Calls Tryd.prog 23 #[.pointer (some ⟨B, 0, none⟩)] w fun e w' => e = .returned (.slice (some ⟨w.heap.size, 0, none⟩) 1 1) ∧ SlAt w' B (some ⟨w.heap.size, 0, none⟩) (tg 3) ∧ Below w.heap.size w w' := by
  go_enter Tryd.func23, Tryd.ntmps23
  go_wp2_with fail
  go_ret
  refine ⟨rfl, fun _ => ⟨w.heap.size, rfl, by simp, fun i j b hi => ?_⟩, by go_grown⟩
  match i, hi with
  | 0, hi => simp [tg] at hi; obtain ⟨rfl, rfl⟩ := hi; simp
set_option maxRecDepth 100000 in
theorem slots_2 (B : Nat) (w : World) (hk : w.cell? ⟨B, 0, none⟩ = some (.int .i64 2)) : Calls Tryd.prog 23 #[.pointer (some ⟨B, 0, none⟩)] w fun e w' => e = .returned (.slice (some ⟨w.heap.size, 0, none⟩) 2 2) ∧ SlAt w' B (some ⟨w.heap.size, 0, none⟩) (tg 2) ∧ Below w.heap.size w w' := by
  go_enter Tryd.func23, Tryd.ntmps23
  go_wp2_with fail
  go_region
  go_wp2_with fail
  go_ret
  refine ⟨rfl, fun _ => ⟨w.heap.size, rfl, by simp, fun i j b hi => ?_⟩, by go_grown⟩
  match i, hi with
  | 0, hi => simp [tg] at hi; obtain ⟨rfl, rfl⟩ := hi; simp
  | 1, hi => simp [tg] at hi; obtain ⟨rfl, rfl⟩ := hi; simp
set_option maxRecDepth 100000 in
set_option maxHeartbeats 4000000 in
theorem slots_1 (B : Nat) (w : World) (hk : w.cell? ⟨B, 0, none⟩ = some (.int .i64 1)) : Calls Tryd.prog 23 #[.pointer (some ⟨B, 0, none⟩)] w fun e w' => e = .returned (.slice (some ⟨w.heap.size, 0, none⟩) 8 8) ∧ SlAt w' B (some ⟨w.heap.size, 0, none⟩) (tg 1) ∧ Below w.heap.size w w' := by
  go_enter Tryd.func23, Tryd.ntmps23
  go_wp2_with fail
  go_region
  go_wp2_with fail
  go_ret
  refine ⟨rfl, fun _ => ⟨w.heap.size, rfl, by simp, fun i j b hi => ?_⟩, by go_grown⟩
  match i, hi with
  | 0, hi => simp [tg] at hi; obtain ⟨rfl, rfl⟩ := hi; simp
  | 1, hi => simp [tg] at hi; obtain ⟨rfl, rfl⟩ := hi; simp
  | 2, hi => simp [tg] at hi; obtain ⟨rfl, rfl⟩ := hi; simp
  | 3, hi => simp [tg] at hi; obtain ⟨rfl, rfl⟩ := hi; simp
  | 4, hi => simp [tg] at hi; obtain ⟨rfl, rfl⟩ := hi; simp
  | 5, hi => simp [tg] at hi; obtain ⟨rfl, rfl⟩ := hi; simp
  | 6, hi => simp [tg] at hi; obtain ⟨rfl, rfl⟩ := hi; simp
  | 7, hi => simp [tg] at hi; obtain ⟨rfl, rfl⟩ := hi; simp
theorem tg_len (k : Int) : (tg k).length ≤ 8 := by unfold tg; split <;> (try split) <;> (try split) <;> simp
/-- slots, whatever is asked. -/
theorem slots_is (B : Nat) (k : Int) (w : World) (h : k = 1 ∨ k = 2 ∨ k = 3 ∨ k = 4) (hk : w.cell? ⟨B, 0, none⟩ = some (.int .i64 k)) : Calls Tryd.prog 23 #[.pointer (some ⟨B, 0, none⟩)] w fun e w' => ∃ (A : Option Addr) (c : Nat), e = .returned (.slice A (tg k).length c) ∧ SlAt w' B A (tg k) ∧ Below w.heap.size w w' := by
  rcases h with rfl | rfl | rfl | rfl
  · exact (slots_1 B w hk).mono fun e w' h => ⟨_, 8, h⟩
  · exact (slots_2 B w hk).mono fun e w' h => ⟨_, 2, h⟩
  · exact (slots_3 B w hk).mono fun e w' h => ⟨_, 1, h⟩
  · exact (slots_4 B w hk).mono fun e w' h => ⟨none, 0, h.1, fun h0 => absurd h0 (by decide), by rw [← h.2]; exact Below.refl _ _⟩
end Go.Proofs.YtnppopeoloigeaaDoor

/-
  Which verb a word is; what a side is called.
-/
import Derived.Test.YtinciphhoieonaaGreatDoorRows
import Derived.Test.YtinciphhoieonaaGreatDoorKit
import Derived.Test.YtinciphhoieonaaGreatDoorApp
import Derived.Test.YtinciphhoieonaaGreatDoorQuiet
import Derived.WalkKit
import Derived.ProofKit
import Derived.OpenShut
import Derived.ShutString
import Derived.Below
import Derived.Outline
import Derived.WalkLawsBesides
import Derived.WalkSpells
import Derived.Handy
import Derived.Deep.QuietTactic
import Derived.BigQuiet
import Derived.RegionTactic
import Derived.ChangeAlike
import Derived.Lib.Hide
import Derived.Laws.Rows
import Derived.Laws.Tables
import Derived.Laws.CopyOwn
import Derived.Laws.MakeOwn
import Derived.Laws.Entries
import Derived.Laws.OwnMore
import Derived.Deep.WholeRow
import Derived.Deep.LoopGhost
import Derived.Deep.AppendLies
import Derived.Deep.Draws
import Derived.Maps.AppendAt
import Derived.OwnWalk
import Derived.Deep.RegionHeld3
import Derived.Deep.Cut
import Derived.Deep.CutRange
import Derived.Deep.DeepCutAuto
import Derived.Deep.CutBlock
import Derived.Lib.SliceRun
import Derived.IntWalk
import Derived.Laws.Strings
import Derived.Test.YtinciphhoieonaaGreatDoorLnB
namespace Go.Proofs.YtinciphhoieonaaGreatDoor
open Go.ChangeShapes Go.WideShapes Go.ChangeAt Go.RowKit
/-- The verbs' words. -/
def vb : Nat → ByteArray
  | 1 => ⟨#[115, 117, 98, 109, 105, 116]⟩
  | 2 => ⟨#[99, 97, 110, 99, 101, 108]⟩
  | 3 => ⟨#[112, 111, 108, 108]⟩
  | 4 => ⟨#[118, 105, 101, 119]⟩
  | _ => ⟨#[]⟩
/-- The package's table of verbs stands as it was laid. -/
structure Vb (w : World) : Prop where
  lt : 0 < w.heap.size
  cell : ∀ k : Nat, k ≤ 4 → w.cell? ⟨0, k, none⟩ = some (.string (vb k))
theorem Vb.below {w w' : World} (h : Vb w) (hb : Below w.heap.size w w') : Vb w' :=
  ⟨by have := hb.size; have := h.lt; omega, fun k hk => (hb.cell (p := ⟨0, k, none⟩) h.lt).trans (h.cell k hk)⟩
/-- Which verb a word is. -/
def kd (s : ByteArray) : Int := if (vb 1).toList == s.toList then 1 else if (vb 2).toList == s.toList then 2 else if (vb 3).toList == s.toList then 3 else if (vb 4).toList == s.toList then 4 else 0
theorem kd_hit (s : ByteArray) (k : Nat) (h1 : 1 ≤ k) (h4 : k ≤ 4) (hm : ∀ i, 1 ≤ i → i < k → ((vb i).toList == s.toList) = false) (hk : ((vb k).toList == s.toList) = true) : kd s = (k : Int) := by
  unfold kd
  rcases (show k = 1 ∨ k = 2 ∨ k = 3 ∨ k = 4 by omega) with rfl | rfl | rfl | rfl
  · rw [hk]; rfl
  · rw [hm 1 (by omega) (by omega), hk]; rfl
  · rw [hm 1 (by omega) (by omega), hm 2 (by omega) (by omega), hk]; rfl
  · rw [hm 1 (by omega) (by omega), hm 2 (by omega) (by omega), hm 3 (by omega) (by omega), hk]; rfl
theorem kd_none (s : ByteArray) (hm : ∀ i, 1 ≤ i → i < 5 → ((vb i).toList == s.toList) = false) : kd s = 0 := by
  unfold kd
  rw [hm 1 (by omega) (by omega), hm 2 (by omega) (by omega), hm 3 (by omega) (by omega), hm 4 (by omega) (by omega)]; rfl
/-- What a side is called. -/
def sd : Int → ByteArray := fun x => if x = 0 then ⟨#[98, 117, 121]⟩ else if x = 1 then ⟨#[115, 101, 108, 108]⟩ else ⟨#[63]⟩
end Go.Proofs.YtinciphhoieonaaGreatDoor

/-
  StateAt, TermsAt, SlotAt, and the document's At.
-/
import Derived.Test.YtjkojbaphdlhlaaDoorRows
import Derived.WalkKit
import Derived.ProofKit
import Derived.OpenShut
import Derived.ShutString
import Derived.Below
import Derived.Outline
import Derived.WalkLawsBesides
import Derived.WalkSpells
import Derived.Handy
import Derived.Deep.QuietTactic
import Derived.BigQuiet
import Derived.RegionTactic
import Derived.ChangeAlike
import Derived.Lib.Hide
import Derived.Laws.Rows
import Derived.Laws.Tables
import Derived.Laws.CopyOwn
import Derived.Laws.MakeOwn
import Derived.Laws.Entries
import Derived.Laws.OwnMore
import Derived.Deep.WholeRow
import Derived.Deep.LoopGhost
import Derived.Deep.AppendLies
import Derived.Deep.Draws
import Derived.Maps.AppendAt
import Derived.OwnWalk
import Derived.Deep.RegionHeld3
import Derived.Deep.Cut
import Derived.Deep.CutRange
import Derived.Deep.DeepCutAuto
import Derived.Deep.CutBlock
import Derived.Lib.SliceRun
import Derived.IntWalk
import Derived.Test.YtjkojbaphdlhlaaDoorKit
import Derived.Test.YtjkojbaphdlhlaaDoorApp
import Derived.Test.YtjkojbaphdlhlaaDoorRcPl
import Derived.Test.YtjkojbaphdlhlaaDoorRcPlaces
import Derived.Test.YtjkojbaphdlhlaaDoorQuiet
import Derived.Test.YtjkojbaphdlhlaaDoorRcRules
namespace Go.Proofs.YtjkojbaphdlhlaaDoor.Rc
open Go.ChangeShapes Go.WideShapes Go.ChangeAt Go.RowKit
/-- A block of seven numbers. -/
def Blk7 (B : Nat) (v0 v1 v2 v3 v4 v5 v6 : Int) (w : World) : Prop :=
  (w.cell? ⟨B, 0, none⟩ = some (.int .i64 v0) ∧ w.cell? ⟨B, 1, none⟩ = some (.int .i64 v1) ∧ w.cell? ⟨B, 2, none⟩ = some (.int .i64 v2) ∧ w.cell? ⟨B, 3, none⟩ = some (.int .i64 v3) ∧ w.cell? ⟨B, 4, none⟩ = some (.int .i64 v4) ∧ w.cell? ⟨B, 5, none⟩ = some (.int .i64 v5) ∧ w.cell? ⟨B, 6, none⟩ = some (.int .i64 v6)) ∧ B < w.heap.size
theorem Blk7.below {B : Nat} {v0 v1 v2 v3 v4 v5 v6 : Int} {w w' : World} (h : Blk7 B v0 v1 v2 v3 v4 v5 v6 w) (hb : Below w.heap.size w w') : Blk7 B v0 v1 v2 v3 v4 v5 v6 w' := by
  obtain ⟨⟨c0, c1, c2, c3, c4, c5, c6⟩, hl⟩ := h
  have hc : ∀ o, w'.cell? ⟨B, o, none⟩ = w.cell? ⟨B, o, none⟩ := fun o => hb.cell (p := ⟨B, o, none⟩) hl
  exact ⟨⟨(hc 0).trans c0, (hc 1).trans c1, (hc 2).trans c2, (hc 3).trans c3, (hc 4).trans c4, (hc 5).trans c5, (hc 6).trans c6⟩, Nat.lt_of_lt_of_le hl hb.size⟩
theorem Blk7.new (w : World) (v0 v1 v2 v3 v4 v5 v6 : Int) (t : TypeId) : Blk7 w.heap.size v0 v1 v2 v3 v4 v5 v6 (w.alloc (.cells #[.int .i64 v0, .int .i64 v1, .int .i64 v2, .int .i64 v3, .int .i64 v4, .int .i64 v5, .int .i64 v6] t)) := by
  refine ⟨⟨?_, ?_, ?_, ?_, ?_, ?_, ?_⟩, ?_⟩ <;> simp [go_sem]
theorem all_is (p c A : Nat) (n b r f g : Int) (w : World) (hA : A = p * c) (hA4 : A ≤ 24) : Calls Tryd.prog 35 #[.agg #[.int .i64 (p : Int), .int .i64 (c : Int), .int .i64 n, .int .i64 b, .int .i64 r, .int .i64 f, .int .i64 g]] w fun e w' => e = .returned (.int .i64 (A : Int)) ∧ Below w.heap.size w w' := by
  have HAA := Lib.hid (show (p : Int) * (c : Int) = (A : Int) from by rw [hA]; rfl)
  have m0 : (0 : Int) ≤ (p : Int) * (c : Int) := by rw [HAA.out]; omega
  have m1 : (p : Int) * (c : Int) ≤ 24 := by rw [HAA.out]; omega
  clear hA
  go_enter Tryd.func35, Tryd.ntmps35
  go_wp2
  go_ret
  exact ⟨by show Ending.returned (.int .i64 ((p : Int) * (c : Int))) = _; rw [HAA.out], by go_grown⟩
theorem slots_is (p c n b r f g : Int) (w : World) (hf : 0 ≤ f ∧ f ≤ 4) : Calls Tryd.prog 60 #[.agg #[.int .i64 p, .int .i64 c, .int .i64 n, .int .i64 b, .int .i64 r, .int .i64 f, .int .i64 g]] w fun e w' => e = .returned (.int .i64 (f + 1)) ∧ Below w.heap.size w w' := by
  obtain ⟨f0, f1⟩ := hf
  go_enter Tryd.func60, Tryd.ntmps60
  go_wp2
  go_ret
  exact ⟨rfl, by go_grown⟩
theorem within_no (x m : Int) (w : World) (h : x < 0 ∨ m ≤ x) : Calls Tryd.prog 61 #[.int .i64 x, .int .i64 m] w fun e w' => e = .returned (.bool false) ∧ w = w' := by
  by_cases h0 : x < 0
  · have hd : decide (0 ≤ x) = false := decide_eq_false (by omega)
    clear h
    go_enter Tryd.func61, Tryd.ntmps61
    go_wp2
    go_ret
    exact ⟨rfl, rfl⟩
  · have h1 : 0 ≤ x := by omega
    have hd : decide (x < m) = false := decide_eq_false (by omega)
    clear h
    go_enter Tryd.func61, Tryd.ntmps61
    go_wp2
    go_ret
    exact ⟨rfl, rfl⟩
end Go.Proofs.YtjkojbaphdlhlaaDoor.Rc

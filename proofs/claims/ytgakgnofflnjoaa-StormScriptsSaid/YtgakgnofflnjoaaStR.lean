/-
  The smaller calls beside what is asked.
-/
import Derived.Test.YtgakgnofflnjoaaRows
import Derived.Test.YtgakgnofflnjoaaKit
import Derived.Test.YtgakgnofflnjoaaQuiet
import Derived.Test.YtgakgnofflnjoaaSt
import Derived.WalkKit
import Derived.ProofKit
import Derived.OpenShut
import Derived.ShutString
import Derived.Below
import Derived.Outline
import Derived.WalkLawsBesides
import Derived.WalkSpells
import Derived.Handy
import Derived.Deep.QuietTactic
import Derived.BigQuiet
import Derived.RegionTactic
import Derived.ChangeAlike
import Derived.Lib.Hide
import Derived.Laws.Rows
import Derived.Laws.Tables
import Derived.Laws.CopyOwn
import Derived.Laws.MakeOwn
import Derived.Laws.Entries
import Derived.Laws.OwnMore
import Derived.Deep.WholeRow
import Derived.Deep.LoopGhost
import Derived.Deep.AppendLies
import Derived.Deep.Draws
import Derived.Maps.AppendAt
import Derived.OwnWalk
import Derived.Deep.RegionHeld3
import Derived.Deep.Cut
import Derived.Deep.CutRange
import Derived.Deep.DeepCutAuto
import Derived.Deep.CutBlock
import Derived.Lib.SliceRun
import Derived.IntWalk
import Derived.Deep.RegionWith
import Derived.Test.YtgakgnofflnjoaaStA
import Derived.Test.YtgakgnofflnjoaaStT
import Derived.Test.YtgakgnofflnjoaaStK
namespace Go.Proofs.Ytgakgnofflnjoaa
open Go.ChangeShapes Go.WideShapes Go.ChangeAt Go.RowKit
theorem hold_lo (x lo hi : Int) (w : World) (h : x < lo) : Calls Try.prog 19 #[.int .i64 x, .int .i64 lo, .int .i64 hi] w fun e w' => e = .returned (.int .i64 (lo)) ∧ Below w.heap.size w w' := by
  go_enter Try.func19, Try.ntmps19
  go_wp2
  go_ret
  exact ⟨rfl, by go_grown⟩
theorem hold_hi (x lo hi : Int) (w : World) (h : ¬ x < lo ∧ hi < x) : Calls Try.prog 19 #[.int .i64 x, .int .i64 lo, .int .i64 hi] w fun e w' => e = .returned (.int .i64 (hi)) ∧ Below w.heap.size w w' := by
  obtain ⟨h1, h2⟩ := h
  have h3 : decide (x < lo) = false := decide_eq_false h1
  clear h1
  go_enter Try.func19, Try.ntmps19
  go_wp2
  go_ret
  exact ⟨rfl, by go_grown⟩
theorem hold_in (x lo hi : Int) (w : World) (h : ¬ x < lo ∧ ¬ hi < x) : Calls Try.prog 19 #[.int .i64 x, .int .i64 lo, .int .i64 hi] w fun e w' => e = .returned (.int .i64 (x)) ∧ Below w.heap.size w w' := by
  obtain ⟨h1, h2⟩ := h
  have h3 : decide (x < lo) = false := decide_eq_false h1
  have h4 : decide (hi < x) = false := decide_eq_false h2
  clear h1 h2
  go_enter Try.func19, Try.ntmps19
  go_wp2
  go_ret
  exact ⟨rfl, by go_grown⟩
def holdS (x lo hi : Int) : Int := if x < lo then lo else if hi < x then hi else x
theorem hold_is (x lo hi : Int) (w : World) : Calls Try.prog 19 #[.int .i64 x, .int .i64 lo, .int .i64 hi] w fun e w' => e = .returned (.int .i64 (holdS x lo hi)) ∧ Below w.heap.size w w' := by
  unfold holdS
  by_cases h1 : x < lo
  · rw [if_pos h1]; exact hold_lo x lo hi w h1
  · rw [if_neg h1]
    by_cases h2 : hi < x
    · rw [if_pos h2]; exact hold_hi x lo hi w ⟨h1, h2⟩
    · rw [if_neg h2]; exact hold_in x lo hi w ⟨h1, h2⟩
theorem below_ref (b : Nat) (N k : Int) (w w1 : World) (hk1 : k ≤ 9223372036854775807) (h : Src w w1 b N) : Calls Try.prog 20 #[.pointer (some ⟨b, 0, none⟩), .int .i64 k] w1 fun e w' => e = .returned (.int .i64 (bl (nx N) k)) ∧ Src w1 w' b (nx N) :=
  (below41 b N k w1 hk1 h.c h.f).mono fun _ _ hD => ⟨hD.1, (Src.refl h.c h.f).drew1 hD⟩
end Go.Proofs.Ytgakgnofflnjoaa

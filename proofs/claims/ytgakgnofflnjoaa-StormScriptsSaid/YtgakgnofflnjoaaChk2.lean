/-
  The first wrong field, one for all worlds.
-/
import Derived.Test.YtgakgnofflnjoaaRows
import Derived.WalkKit
import Derived.ProofKit
import Derived.OpenShut
import Derived.ShutString
import Derived.Below
import Derived.Outline
import Derived.WalkLawsBesides
import Derived.WalkSpells
import Derived.Handy
import Derived.Deep.QuietTactic
import Derived.BigQuiet
import Derived.RegionTactic
import Derived.ChangeAlike
import Derived.Lib.Hide
import Derived.Laws.Rows
import Derived.Laws.Tables
import Derived.Laws.CopyOwn
import Derived.Deep.WholeRow
import Derived.Deep.LoopGhost
import Derived.Laws.BitsAllLaws
import Derived.Laws.BitsLemmas
import Derived.IntWalk
import Derived.Test.YtgakgnofflnjoaaKit
import Derived.Test.YtgakgnofflnjoaaRules
import Derived.Test.YtgakgnofflnjoaaCheck
namespace Go.Proofs.Ytgakgnofflnjoaa
open Go.ChangeShapes Go.WideShapes Go.ChangeAt Go.RowKit
theorem check_bad2 (p c n b r f g : Int) (h : ¬ ((1 ≤ p ∧ p ≤ 6) ∧ (1 ≤ c ∧ c ≤ 4) ∧ (1 ≤ n ∧ n ≤ 3) ∧ (1 ≤ b ∧ b ≤ 4) ∧ (0 ≤ r ∧ r ≤ 4) ∧ (1 ≤ f ∧ f ≤ 4) ∧ (1 ≤ g ∧ g ≤ 15))) : ∃ i : Nat, ∀ W : World, Calls Try.prog 6 #[.agg #[.int .i64 p, .int .i64 c, .int .i64 n, .int .i64 b, .int .i64 r, .int .i64 f, .int .i64 g]] W fun e w' => e = .returned (.int .i64 (i : Int)) ∧ Below W.heap.size W w' := by
  by_cases a0 : p < 1
  · exact ⟨0, fun W => check_low_0 p c n b r f g W a0⟩
  by_cases z0 : 6 < p
  · exact ⟨0, fun W => check_high_0 p c n b r f g W z0⟩
  have r0 : 1 ≤ p ∧ p ≤ 6 := ⟨by omega, by omega⟩
  by_cases a1 : c < 1
  · exact ⟨1, fun W => check_low_1 p c n b r f g W r0 a1⟩
  by_cases z1 : 4 < c
  · exact ⟨1, fun W => check_high_1 p c n b r f g W r0 z1⟩
  have r1 : 1 ≤ c ∧ c ≤ 4 := ⟨by omega, by omega⟩
  by_cases a2 : n < 1
  · exact ⟨2, fun W => check_low_2 p c n b r f g W r0 r1 a2⟩
  by_cases z2 : 3 < n
  · exact ⟨2, fun W => check_high_2 p c n b r f g W r0 r1 z2⟩
  have r2 : 1 ≤ n ∧ n ≤ 3 := ⟨by omega, by omega⟩
  by_cases a3 : b < 1
  · exact ⟨3, fun W => check_low_3 p c n b r f g W r0 r1 r2 a3⟩
  by_cases z3 : 4 < b
  · exact ⟨3, fun W => check_high_3 p c n b r f g W r0 r1 r2 z3⟩
  have r3 : 1 ≤ b ∧ b ≤ 4 := ⟨by omega, by omega⟩
  by_cases a4 : r < 0
  · exact ⟨4, fun W => check_low_4 p c n b r f g W r0 r1 r2 r3 a4⟩
  by_cases z4 : 4 < r
  · exact ⟨4, fun W => check_high_4 p c n b r f g W r0 r1 r2 r3 z4⟩
  have r4 : 0 ≤ r ∧ r ≤ 4 := ⟨by omega, by omega⟩
  by_cases a5 : f < 1
  · exact ⟨5, fun W => check_low_5 p c n b r f g W r0 r1 r2 r3 r4 a5⟩
  by_cases z5 : 4 < f
  · exact ⟨5, fun W => check_high_5 p c n b r f g W r0 r1 r2 r3 r4 z5⟩
  have r5 : 1 ≤ f ∧ f ≤ 4 := ⟨by omega, by omega⟩
  by_cases a6 : g < 1
  · exact ⟨6, fun W => check_low_6 p c n b r f g W r0 r1 r2 r3 r4 r5 a6⟩
  by_cases z6 : 15 < g
  · exact ⟨6, fun W => check_high_6 p c n b r f g W r0 r1 r2 r3 r4 r5 z6⟩
  have r6 : 1 ≤ g ∧ g ≤ 15 := ⟨by omega, by omega⟩
  exact absurd ⟨r0, r1, r2, r3, r4, r5, r6⟩ h
end Go.Proofs.Ytgakgnofflnjoaa

/-
  strings.CutPrefix at a minus: whether a word begins with it, and what stands behind.
-/
import Derived.Test.YtafnipgeeampjaaGreatDoorRows
import Derived.Test.YtafnipgeeampjaaGreatDoorKit
import Derived.Test.YtafnipgeeampjaaGreatDoorApp
import Derived.Test.YtafnipgeeampjaaGreatDoorQuiet
import Derived.WalkKit
import Derived.ProofKit
import Derived.OpenShut
import Derived.ShutString
import Derived.Below
import Derived.Outline
import Derived.WalkLawsBesides
import Derived.WalkSpells
import Derived.Handy
import Derived.Deep.QuietTactic
import Derived.BigQuiet
import Derived.RegionTactic
import Derived.ChangeAlike
import Derived.Lib.Hide
import Derived.Laws.Rows
import Derived.Laws.Tables
import Derived.Laws.CopyOwn
import Derived.Laws.MakeOwn
import Derived.Laws.Entries
import Derived.Laws.OwnMore
import Derived.Deep.WholeRow
import Derived.Deep.LoopGhost
import Derived.Deep.AppendLies
import Derived.Deep.Draws
import Derived.Maps.AppendAt
import Derived.OwnWalk
import Derived.Deep.RegionHeld3
import Derived.Deep.Cut
import Derived.Deep.CutRange
import Derived.Deep.DeepCutAuto
import Derived.Deep.CutBlock
import Derived.Lib.SliceRun
import Derived.IntWalk
import Derived.Laws.Strings
import Derived.Test.YtafnipgeeampjaaGreatDoorLnA
import Derived.Lib.Bytealg
import Derived.Lib.Strings
import Derived.Test.YtafnipgeeampjaaGreatDoorSrG
namespace Go.Proofs.YtafnipgeeampjaaGreatDoor
open Go.ChangeShapes Go.WideShapes Go.ChangeAt Go.RowKit
set_option maxHeartbeats 1000000 in
theorem hpre_is (s p : ByteArray) (w : World) : Calls Tryz.prog 80 #[.string s, .string p] w fun e w' => e = .returned (.bool (Lib.hasPrefix s.data.toList p.data.toList)) ∧ w' = w := by
  go_enter Tryz.func80, Tryz.ntmps80
  go_wp2
  · have h1 : p.size ≤ s.size := by assumption
    go_ret
    refine ⟨?_, rfl⟩
    rw [← Lib.hasPrefix_raw, decide_eq_true h1]
    rfl
  · have h1 : ¬ p.size ≤ s.size := by assumption
    go_ret
    refine ⟨?_, rfl⟩
    rw [← Lib.hasPrefix_raw, decide_eq_false h1]
    rfl
set_option maxHeartbeats 1000000 in
theorem cutp_is (s p : ByteArray) (w : World) : Calls Tryz.prog 66 #[.string s, .string p] w fun e w' => e = .returned (.tuple #[.string ⟨(Lib.trimPrefix s.data.toList p.data.toList).toArray⟩, .bool (Lib.hasPrefix s.data.toList p.data.toList)]) ∧ w' = w := by
  have hc := Lib.hid (fun w => hpre_is s p w)
  rcases hp : Lib.hasPrefix s.data.toList p.data.toList with _ | _
  · rw [hp] at hc
    have h3 : (decide (p.size ≤ s.size) && ((s.extract 0 p.size).toList == p.toList)) = false := by rw [Lib.hasPrefix_raw]; exact hp
    go_enter Tryz.func66, Tryz.ntmps66
    go_wp2_with fail
    refine (hc.out _).mono ?_
    rintro e w' ⟨rfl, rfl⟩
    go_wp2
    go_ret2
    refine ⟨?_, rfl⟩
    rw [Lib.trimPrefix_miss s p h3]
    rfl
  · rw [hp] at hc
    have h3 : (decide (p.size ≤ s.size) && ((s.extract 0 p.size).toList == p.toList)) = true := by rw [Lib.hasPrefix_raw]; exact hp
    rw [Bool.and_eq_true, decide_eq_true_eq] at h3
    have h1 := h3.1
    go_enter Tryz.func66, Tryz.ntmps66
    go_wp2_with fail
    refine (hc.out _).mono ?_
    rintro e w' ⟨rfl, rfl⟩
    go_wp2
    go_ret2
    refine ⟨?_, rfl⟩
    rw [Lib.trimPrefix_hit s p h1 h3.2]
    rfl
set_option maxHeartbeats 1000000 in
theorem cutpre_is (s p : ByteArray) (w : World) : Calls Tryz.prog 53 #[.string s, .string p] w fun e w' => e = .returned (.tuple #[.string ⟨(Lib.trimPrefix s.data.toList p.data.toList).toArray⟩, .bool (Lib.hasPrefix s.data.toList p.data.toList)]) ∧ w' = w := by
  have hc := Lib.hid (fun w => cutp_is s p w)
  go_enter Tryz.func53, Tryz.ntmps53
  go_wp2_with fail
  refine (hc.out _).mono ?_
  rintro e w' ⟨rfl, rfl⟩
  go_wp2
  go_ret2
  exact ⟨rfl, rfl⟩
/-- At a minus. -/
theorem cutm_is (l : List UInt8) (w : World) : Calls Tryz.prog 53 #[.string (Bs l), .string ⟨#[45]⟩] w fun e w' => e = .returned (.tuple #[.string (Bs (unm l)), .bool (neg l)]) ∧ w' = w := by
  have c := cutpre_is (Bs l) ⟨#[45]⟩ w
  rw [show (Bs l).data.toList = l from rfl, show (⟨#[45]⟩ : ByteArray).data.toList = [45] from rfl, trimPrefix_neg, hasPrefix_neg] at c
  exact c

end Go.Proofs.YtafnipgeeampjaaGreatDoor

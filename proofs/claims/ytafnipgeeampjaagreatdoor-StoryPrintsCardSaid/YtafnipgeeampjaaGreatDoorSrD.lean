/-
  A word's number.
-/
import Derived.Test.YtafnipgeeampjaaGreatDoorRows
import Derived.Test.YtafnipgeeampjaaGreatDoorKit
import Derived.Test.YtafnipgeeampjaaGreatDoorApp
import Derived.Test.YtafnipgeeampjaaGreatDoorQuiet
import Derived.WalkKit
import Derived.ProofKit
import Derived.OpenShut
import Derived.ShutString
import Derived.Below
import Derived.Outline
import Derived.WalkLawsBesides
import Derived.WalkSpells
import Derived.Handy
import Derived.Deep.QuietTactic
import Derived.BigQuiet
import Derived.RegionTactic
import Derived.ChangeAlike
import Derived.Lib.Hide
import Derived.Laws.Rows
import Derived.Laws.Tables
import Derived.Laws.CopyOwn
import Derived.Laws.MakeOwn
import Derived.Laws.Entries
import Derived.Laws.OwnMore
import Derived.Deep.WholeRow
import Derived.Deep.LoopGhost
import Derived.Deep.AppendLies
import Derived.Deep.Draws
import Derived.Maps.AppendAt
import Derived.OwnWalk
import Derived.Deep.RegionHeld3
import Derived.Deep.Cut
import Derived.Deep.CutRange
import Derived.Deep.DeepCutAuto
import Derived.Deep.CutBlock
import Derived.Lib.SliceRun
import Derived.IntWalk
import Derived.Laws.Strings
import Derived.Lib.Bytealg
import Derived.Lib.Strings
import Derived.Laws.Externs
import Derived.Test.YtafnipgeeampjaaGreatDoorSrC
import Derived.Test.YtafnipgeeampjaaGreatDoorShelf
import Derived.Shelf.Strconv.Atoi
namespace Go.Proofs.YtafnipgeeampjaaGreatDoor
open Go.ChangeShapes Go.WideShapes Go.ChangeAt Go.RowKit
theorem unm_size (l : List UInt8) (hl : l.length ≤ 100000) : (Bs (unm l)).size ≤ 100000 := by
  rw [Bs_size]
  unfold unm
  split
  · rw [List.length_tail]; omega
  · exact hl
/-- Against a literal. -/
theorem eq0 (l : List UInt8) : ((Bs l).toList == [48]) = (l == [48]) := by
  rw [ByteArray.toList_eq, Bs_list]
set_option maxHeartbeats 2000000 in
theorem number_no (l : List UInt8) (hl : l.length ≤ 100000) (h : inum l = none) (w : World) : Calls Tryz.prog 45 #[.string (Bs l)] w fun e w' => e = .returned (.tuple #[.int .i64 0, .bool false]) ∧ w' = w := by
  have hc := Lib.hid (fun w => cutm_is l w)
  have hd := fun w => digits_is (Bs (unm l)) (unm_size l hl) w
  rw [Bs_list] at hd
  rcases hg : digs (unm l) with _ | _
  · rw [hg] at hd
    have hd := Lib.hid hd
    clear h
    go_enter Tryz.func45, Tryz.ntmps45
    go_wp2_with fail
    refine (hc.out _).mono ?_
    rintro e w' ⟨rfl, rfl⟩
    go_wp2_with fail
    refine (hd.out _).mono ?_
    rintro e w' ⟨rfl, rfl⟩
    go_wp2_with fail
    go_ret2
    exact ⟨rfl, rfl⟩
  · rw [hg] at hd
    have hd := Lib.hid hd
    rcases hn : neg l with _ | _
    · exfalso
      have := inum_some l (by rw [hg, hn]; rfl)
      rw [this] at h
      cases h
    · rcases hu : (unm l == [48]) with _ | _
      · exfalso
        have := inum_some l (by rw [hg, hn, hu]; rfl)
        rw [this] at h
        cases h
      · have he : ((Bs (unm l)).toList == [48]) = true := by rw [eq0, hu]
        rw [hn] at hc
        clear h hu
        go_enter Tryz.func45, Tryz.ntmps45
        go_wp2_with fail
        refine (hc.out _).mono ?_
        rintro e w' ⟨rfl, rfl⟩
        go_wp2_with fail
        refine (hd.out _).mono ?_
        rintro e w' ⟨rfl, rfl⟩
        go_wp2_with fail
        go_ret2
        exact ⟨rfl, rfl⟩
theorem atoi_is (l : List UInt8) (x : Int) (h : inum l = some x) (w : World) : Calls Tryz.prog 55 #[.string (Bs l)] w fun e w' => e = .returned (.tuple #[.int .i64 x, .nilIface]) ∧ Below w.heap.size w w' := by
  obtain ⟨h1, h2⟩ := atoi_inum h
  refine (Any.strconv_Atoi lays172 (Bs l) x (by rw [Bs_size]; omega) (by rw [Bs_list]; exact h1) w).mono ?_
  rintro e w' ⟨rfl, t, rfl⟩
  exact ⟨rfl, rfl, rfl, rfl, by rw [Lib.bytesWorld_size]; omega, fun k hk => Lib.bytesWorld_at_old w _ t k hk⟩
set_option maxHeartbeats 2000000 in
theorem number_some (l : List UInt8) (hl : l.length ≤ 100000) (x : Int) (h : inum l = some x) (w : World) : Calls Tryz.prog 45 #[.string (Bs l)] w fun e w' => e = .returned (.tuple #[.int .i64 x, .bool true]) ∧ Below w.heap.size w w' := by
  have hc := Lib.hid (fun w => cutm_is l w)
  have hd := fun w => digits_is (Bs (unm l)) (unm_size l hl) w
  rw [Bs_list] at hd
  have HA := Lib.hid (fun w => atoi_is l x h w)
  rcases hg : digs (unm l) with _ | _
  · exfalso
    have := inum_none l (by rw [hg]; rfl)
    rw [this] at h
    cases h
  · rw [hg] at hd
    have hd := Lib.hid hd
    rcases hn : neg l with _ | _
    · rw [hn] at hc
      clear h
      go_enter Tryz.func45, Tryz.ntmps45
      go_wp2_with fail
      refine (hc.out _).mono ?_
      rintro e w' ⟨rfl, rfl⟩
      go_wp2_with fail
      refine (hd.out _).mono ?_
      rintro e w' ⟨rfl, rfl⟩
      go_wp2_with fail
      refine (HA.out _).mono ?_
      rintro e w' ⟨rfl, hb⟩
      have HB := Lib.hid hb
      clear hb
      go_wp2_with fail
      go_region
      go_wp2_with fail
      go_ret2
      exact ⟨rfl, Below.drew HB.out⟩
    · rcases hu : (unm l == [48]) with _ | _
      · have he : ((Bs (unm l)).toList == [48]) = false := by rw [eq0, hu]
        rw [hn] at hc
        clear h hu
        go_enter Tryz.func45, Tryz.ntmps45
        go_wp2_with fail
        refine (hc.out _).mono ?_
        rintro e w' ⟨rfl, rfl⟩
        go_wp2_with fail
        refine (hd.out _).mono ?_
        rintro e w' ⟨rfl, rfl⟩
        go_wp2_with fail
        refine (HA.out _).mono ?_
        rintro e w' ⟨rfl, hb⟩
        have HB := Lib.hid hb
        clear hb
        go_wp2_with fail
        go_region
        go_wp2_with fail
        go_ret2
        exact ⟨rfl, Below.drew HB.out⟩
      · exfalso
        have := inum_none l (by rw [hg, hn, hu]; rfl)
        rw [this] at h
        cases h

end Go.Proofs.YtafnipgeeampjaaGreatDoor

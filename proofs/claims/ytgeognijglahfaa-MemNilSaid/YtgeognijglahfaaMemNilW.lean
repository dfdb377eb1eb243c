/-
  The walk of MemNil.
-/
import Derived.Test.YtgeognijglahfaaRows
import Derived.WalkKit
import Derived.ProofKit
import Derived.OpenShut
import Derived.ShutString
import Derived.Below
import Derived.Outline
import Derived.WalkLawsBesides
import Derived.WalkSpells
import Derived.Handy
import Derived.Deep.QuietTactic
import Derived.BigQuiet
import Derived.RegionTactic
import Derived.ChangeAlike
import Derived.Lib.Hide
import Derived.Laws.Rows
import Derived.Laws.Tables
import Derived.Laws.CopyOwn
import Derived.Deep.WholeRow
import Derived.Deep.LoopGhost
import Derived.Laws.BitsAllLaws
import Derived.Laws.BitsLemmas
import Derived.IntWalk
import Derived.Test.YtgeognijglahfaaKit
import Derived.Test.YtgeognijglahfaaLay
import Derived.Test.YtgeognijglahfaaAny
import Derived.Test.YtgeognijglahfaaGet
import Derived.Test.YtgeognijglahfaaWithM
import Derived.Test.YtgeognijglahfaaIs
import Derived.Deep.RegionHeld3
import Derived.Deep.Cut
import Derived.Deep.CutRange
import Derived.Deep.DeepCutAuto
import Derived.Deep.CutBlock
import Derived.Deep.RegionLaw
import Derived.Test.YtgeognijglahfaaQuiet
import Derived.Test.YtgeognijglahfaaNumF
import Derived.Test.YtgeognijglahfaaWith
import Derived.Test.YtgeognijglahfaaWithM
import Derived.Test.YtgeognijglahfaaRefTwo
import Derived.Test.YtgeognijglahfaaAwakeB
import Derived.Test.YtgeognijglahfaaBox
import Derived.Laws.MakeOwn
import Derived.Laws.Entries
import Derived.Below
import Derived.Laws.OwnMore
import Derived.Deep.AppendLies
import Derived.Deep.Draws
import Derived.Maps.AppendAt
import Derived.OwnWalk
import Derived.Test.YtgeognijglahfaaApp
import Derived.Lib.SliceRun
import Derived.Test.YtgeognijglahfaaMem
namespace Go.Proofs.Ytgeognijglahfaa.memNil
open Go.ChangeShapes Go.WideShapes Go.ChangeAt Go.RowKit
set_option maxRecDepth 100000 in
set_option maxHeartbeats 4000000 in
theorem awake03 (w : World) : Calls Try.prog 16 #[] w fun e w' => e = .returned (.bool true) ∧ Below w.heap.size w w' := by
  have HNEW := Lib.hid (new_is 1 (by decide) w)
  have HNW : Hid (Calls Try.prog 66 #[.int .i64 1] w fun e w' => e = .returned (.tuple #[.pointer (some ⟨w.heap.size + 1, 0, none⟩), .nilIface]) ∧ MemAt (w.heap.size + 1) w.heap.size 1 1 (some ⟨w.heap.size, 0, none⟩) (fun _ => 0) 0 0 0 0 0 false w' ∧ Below w.heap.size w w') := HNEW.out
  clear HNEW
  go_enter Try.func16, Try.ntmps16
  go_wp2_with fail
  refine HNW.out.mono ?_
  rintro e w1 ⟨rfl, hM1, hB1⟩
  have HS1 : Hid (Calls Try.prog 15 #[.pointer (some ⟨w.heap.size + 1, 0, none⟩), .int .i64 0, .int .u64 0, .int .u64 7] w1 (Stepped (w.heap.size + 1) w.heap.size 1 1 (some ⟨w.heap.size, 0, none⟩) (upd (fun _ => 0) 0 7) (0 + 1) 3 (0 : Nat) 0 7 true (.tuple #[.bool true, .nilIface]) w1)) := swap_yes hM1 0 (by decide) 0 7 (by decide) (by decide) rfl
  clear hM1
  go_wp2_with fail
  refine HS1.out.mono ?_
  rintro e w2 ⟨rfl, hM2, hz2, hK2⟩
  have hB2 := hK2 w.heap.size w (by omega) (Nat.le_refl _) hB1
  have HS2 : Hid (Calls Try.prog 15 #[.pointer (some ⟨w.heap.size + 1, 0, none⟩), .int .i64 0, .int .u64 0, .int .u64 8] w2 (Stepped (w.heap.size + 1) w.heap.size 1 1 (some ⟨w.heap.size, 0, none⟩) (upd (upd (fun _ => 0) 0 7) 0 7) (0 + 1 + 1) 3 (0 : Nat) 7 7 false (.tuple #[.bool false, .nilIface]) w2)) := swap_no hM2 0 (by decide) 0 8 (by decide) (by decide)
  clear hM2 hK2 hz2
  go_wp2_with fail
  refine HS2.out.mono ?_
  rintro e w3 ⟨rfl, hM3, hz3, hK3⟩
  have hB3 := hK3 w.heap.size w (by omega) (Nat.le_refl _) hB2
  have HWD := Lib.hid (words_is hM3 (by decide))
  clear hM3 hK3 hz3
  go_wp2_with fail
  refine HWD.out.mono ?_
  rintro e w4 ⟨B', c', rfl, hW4, hl4, hb4⟩
  have hB4 := Below.step hB3 hb4
  have h7 : w4.cell? ⟨B', 0, none⟩ = some (.int .u64 7) := (hW4.wd 0 (by decide)).1
  clear hW4 hl4 hb4
  go_wp2
  go_ret
  exact ⟨rfl, hB4⟩
theorem walk (a0 : Int) (a1 : Int) (w : World) (w0 : (Lit.int .i64 a0).wf = true) (w1 : (Lit.int .u64 a1).wf = true) :
    Calls Try.prog 4 #[.int .i64 a0, .int .u64 a1] w fun e w' => e = .returned (.bool true) ∧ Below w.heap.size w w' := by
  clear w0 w1
  go_enter Try.func4, Try.ntmps4
  go_wp2_with fail
  refine (load_nil a0 _).mono ?_
  rintro e wx ⟨rfl, rfl⟩
  go_wp2_with fail
  refine (swap_nil a0 a1 a1 _).mono ?_
  rintro e wx ⟨rfl, rfl⟩
  go_wp2_with fail
  refine (awake03 _).mono ?_
  rintro e w1 ⟨rfl, hb1⟩
  have hB1 := hb1
  skip
  go_wp2_with fail
  refine (num_code 2 (by decide) (by decide) _).mono ?_
  rintro e w2 ⟨rfl, hb2⟩
  have hB2 := Below.step hB1 hb2
  clear hb2
  go_wp2_with fail
  refine (num_code 2 (by decide) (by decide) _).mono ?_
  rintro e w3 ⟨rfl, hb3⟩
  have hB3 := Below.step hB2 hb3
  clear hb3
  go_wp2_with fail
  refine (store_nil a0 a1 _).mono ?_
  rintro e wx ⟨rfl, rfl⟩
  go_wp2_with fail
  refine (num_code 2 (by decide) (by decide) _).mono ?_
  rintro e w4 ⟨rfl, hb4⟩
  have hB4 := Below.step hB3 hb4
  clear hb4
  go_wp2_with fail
  refine (len_nil _).mono ?_
  rintro e wx ⟨rfl, rfl⟩
  go_wp2_with fail
  refine (steps_nil _).mono ?_
  rintro e wx ⟨rfl, rfl⟩
  go_wp2_with fail
  refine (last_nil _).mono ?_
  rintro e w5 ⟨rfl, hb5⟩
  have hB5 := Below.step hB4 hb5
  clear hb5
  go_wp2_with fail
  refine (words_nil _).mono ?_
  rintro e wx ⟨rfl, rfl⟩
  go_wp2_with fail
  refine (twin_nil _).mono ?_
  rintro e wx ⟨rfl, rfl⟩
  go_wp2
  go_ret
  exact ⟨rfl, hB5⟩
end Go.Proofs.Ytgeognijglahfaa.memNil

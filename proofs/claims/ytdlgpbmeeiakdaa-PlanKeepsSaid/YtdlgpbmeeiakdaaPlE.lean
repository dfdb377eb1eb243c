/-
  The example of plans.
-/
import Derived.Test.YtdlgpbmeeiakdaaRows
import Derived.Test.YtdlgpbmeeiakdaaKit
import Derived.Test.YtdlgpbmeeiakdaaApp
import Derived.Test.YtdlgpbmeeiakdaaEv
import Derived.Test.YtdlgpbmeeiakdaaEvP
import Derived.Test.YtdlgpbmeeiakdaaEvQ
import Derived.Test.YtdlgpbmeeiakdaaEvR
import Derived.Test.YtdlgpbmeeiakdaaQuiet
import Derived.Test.YtdlgpbmeeiakdaaPlA
import Derived.Test.YtdlgpbmeeiakdaaPlB
import Derived.Test.YtdlgpbmeeiakdaaPlC
import Derived.Test.YtdlgpbmeeiakdaaPlD
import Derived.WalkKit
import Derived.ProofKit
import Derived.OpenShut
import Derived.ShutString
import Derived.Below
import Derived.Outline
import Derived.WalkLawsBesides
import Derived.WalkSpells
import Derived.Handy
import Derived.Deep.QuietTactic
import Derived.BigQuiet
import Derived.RegionTactic
import Derived.ChangeAlike
import Derived.Lib.Hide
import Derived.Laws.Rows
import Derived.Laws.Tables
import Derived.Laws.CopyOwn
import Derived.Laws.MakeOwn
import Derived.Laws.Entries
import Derived.Laws.OwnMore
import Derived.Deep.WholeRow
import Derived.Deep.LoopGhost
import Derived.Deep.AppendLies
import Derived.Deep.Draws
import Derived.Maps.AppendAt
import Derived.OwnWalk
import Derived.Deep.RegionHeld3
import Derived.Deep.Cut
import Derived.Deep.CutRange
import Derived.Deep.DeepCutAuto
import Derived.Deep.CutBlock
import Derived.Lib.SliceRun
import Derived.IntWalk
namespace Go.Proofs.Ytdlgpbmeeiakdaa
open Go.ChangeShapes Go.WideShapes Go.ChangeAt Go.RowKit
theorem eqA (a b c d : Int) (w : World) : (Op.equalIn 10000 57 (.agg #[.int .i64 a, .int .i64 b]) (.agg #[.int .i64 c, .int .i64 d])).run Try.prog w = .ok (a == c && b == d) w := by
  have u3 := Try.underlying3
  have a3 := Try.isAgg3
  have z3 := Try.sizeOf3
  rw [show (10000 : Nat) = 9999 + 1 from rfl, Op.equalIn]
  simp only [Sem.run_bind, run_underlying Try.underlying57, Result.andThen_ok]
  simp only [Std.Legacy.Range.forIn_eq_forIn_range', Std.Legacy.Range.size, Nat.sub_zero, Nat.add_sub_cancel, Nat.div_one, List.range'_succ, List.range'_zero, List.forIn_cons, List.forIn_nil]
  go_simp
  by_cases h1 : a = c <;> by_cases h2 : b = d <;> simp [h1, h2]
set_option maxRecDepth 100000 in
set_option maxHeartbeats 4000000 in
theorem awake21 (w : World) : Calls Try.prog 17 #[] w fun e w' => e = .returned (.bool true) ∧ Below w.heap.size w w' := by
  obtain ⟨i0, hi, hz0, hz1, hz2⟩ := info_parts infoE
  have HI := Lib.hid hi
  have HZ0 := Lib.hid hz0
  have HZ1 := Lib.hid hz1
  have HZ2 := Lib.hid hz2
  clear hi hz0 hz1 hz2
  have HB1 := Lib.hid (fun W => burst_is 2 3 3 W (by decide))
  have HB2 := Lib.hid (fun W => burst_is 0 1 1 W (by decide))
  go_enter Try.func17, Try.ntmps17
  go_wp2_with fail
  refine (HB1.out _).mono ?_
  rintro e w1 ⟨v1, rfl, hO1, hb1⟩
  have hO1' : w1.ownsRow w.heap.size 67 12 v1 3 (evl (List.replicate 3 ((3 : Int), (2 : Int), (0 : Int)))) := hO1
  have HO1a := Lib.hid hO1'
  clear hO1 hO1'
  go_wp2_with fail
  refine (HB2.out _).mono ?_
  rintro e w2 ⟨v2, rfl, hO2, hb2⟩
  have hB2 := Below.step hb1 hb2
  have hs2 := hB2.size
  have HO1 := Lib.hid (row_kept HO1a.out hb2)
  obtain ⟨A2, c2, rfl⟩ := own_shape hO2
  have HR := Lib.hid (Reads.of_own hO2)
  have N1 := Lib.hid (show 3 + 1 ≤ maxLen from by unfold maxLen; omega)
  have N2 := Lib.hid (show (3 + 1) * 96 ≤ 140737488355328 from by omega)
  have N3 := Lib.hid (show w.heap.size ≤ w2.heap.size from hs2)
  have NV := Lib.hid (evl_one (List.replicate 1 ((3 : Int), (0 : Int), (0 : Int))))
  clear HO1a hO2 hb1 hb2
  go_wp2_with (at_builtin; refine wpList_append_any _ rfl (.tmp 2) (.tmp 3) 38 rfl w.heap.size 67 i0 (.agg #[.int .i64 0, .int .i64 0, .int .i64 0, .int .i64 0, .int .i64 0, .int .i64 0, .int .i64 0, .int .i64 0, .int .i64 0, .int .i64 0, .int .i64 0, .int .i64 0]) 12 96 Try.underlying38 HI.out HZ0.out HZ1.out HZ2.out rfl (by decide) _ 3 _ rfl HO1.out _ A2 1 c2 _ rfl HR.out NV.out N1.out N2.out N3.out ?_; intro v3 w3 hown3 hgrow3 hblk3; have HP := Lib.hid (And.intro hown3 hgrow3); clear hown3 hgrow3 hblk3)
  obtain ⟨hO3, hG3⟩ := HP.out
  have hB3 : Below w.heap.size w w3 := Below.grown hB2 hG3 hs2 (fun g e => (HO1.out.lt g e).1)
  rw [← evl_app] at hO3
  have hO4 : w3.ownsRow w.heap.size 67 12 v3 (List.replicate 3 ((3 : Int), (2 : Int), (0 : Int)) ++ List.replicate 1 ((3 : Int), (0 : Int), (0 : Int))).length (evl (List.replicate 3 ((3 : Int), (2 : Int), (0 : Int)) ++ List.replicate 1 ((3 : Int), (0 : Int), (0 : Int)))) := hO3
  obtain ⟨A3, c3, rfl⟩ := own_shape hO4
  have hE := EAt.of_own hO4
  have HRU := Lib.hid (runs_is A3 c3 _ w3 hE (by decide))
  clear hO3 hG3 hO4 hE HP HO1 HR hB2 hs2
  refine HRU.out.mono ?_
  rintro e w4 ⟨v4, rfl, hO4, hb4⟩
  have hB4 := Below.step hB3 hb4
  have hO5 : w4.ownsRow w3.heap.size 57 2 v4 2 [.int .i64 2, .int .i64 3, .int .i64 0, .int .i64 1] := hO4
  obtain ⟨G, cp, rfl, _, hGl⟩ := World.ownsRow.form hO5 (by decide)
  have x0 := World.ownsRow.cellAt hO5 0 (by decide)
  have x1 := World.ownsRow.cellAt hO5 1 (by decide)
  have x2 := World.ownsRow.cellAt hO5 2 (by decide)
  have x3 := World.ownsRow.cellAt hO5 3 (by decide)
  simp only [List.getElem?_cons_zero, List.getElem?_cons_succ] at x0 x1 x2 x3
  clear hO4 hO5 HRU hb4 hB3
  have E1 := eqA 2 3 2 3 w4
  have E2 := eqA 0 1 0 1 w4
  rw [show ((2 : Int) == 2 && (3 : Int) == 3) = true from rfl] at E1
  rw [show ((0 : Int) == 0 && (1 : Int) == 1) = true from rfl] at E2
  go_wp2_with fail
  go_ret
  exact ⟨rfl, hB4⟩
end Go.Proofs.Ytdlgpbmeeiakdaa
